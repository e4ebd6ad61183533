import Derived.Test.YtghiffpolacmiabDoorTe
namespace Go.Proofs.YtghiffpolacmiabDoor
open Go.ChangeShapes Go.WideShapes Go.ChangeAt Go.RowKit
set_option linter.unusedVariables false

theorem mod_toNat (n : Int) (K : Nat) (hK : 0 < K) : (((n % (K : Int)).toNat : Nat) : Int) = n % (K : Int) := Int.toNat_of_nonneg (Int.emod_nonneg _ (by omega))
theorem named_1 (w : World) (hg : Gt w) (op : Int) (h0 : lD (fo op) = 22) (h1 : lA (fo op) = 18) (h2 : lB (fo op) = 14) (h3 : lI (fo op) = 0) :
    Calls Tryd.prog 11 #[.int .i64 op] w fun e w' => e = .returned (.int .u32 4294950912) ∧ Kp w w' := by
  have hL : ∀ w, Gt w → Calls Tryd.prog 18 #[.int .i64 op] w fun e w' => e = .returned (.agg #[.int .u64 22, .int .u64 18, .int .u64 14, .int .u64 0]) ∧ Kp w w' := fun w h => layout_at op 22 18 14 0 h0 h1 h2 h3 w h
  clear h0 h1 h2 h3
  go_enter Tryd.func11, Tryd.ntmps11
  go_wp2_with (first | (go_at_call 18; refine (hL _ hg).mono ?_; rintro e w1 ⟨rfl, k1⟩) | fail)
  go_quiet (first | (go_at_call 19; with_reducible exact Calls.quiet_of_same (mask_14 _)) | (go_at_call 19; with_reducible exact Calls.quiet_of_same (mask_18 _)) | (go_at_call 19; with_reducible exact Calls.quiet_of_same (mask_22 _)) | fail)
  go_wp2_with (fail)
  generalize hW : (w1.alloc (.cells #[.int .u64 22, .int .u64 18, .int .u64 14, .int .u64 0] 67)).drewN nq = W
  have kW : Kp w W := by rw [← hW]; exact (k1.alloc _).drewN _
  have gW : W.heap[w1.heap.size]? = some (.cells #[.int .u64 22, .int .u64 18, .int .u64 14, .int .u64 0] 67 (0, 0)) := by rw [← hW]; exact heap_alloc_new w1 _
  obtain ⟨c0, c1, c2, c3, _⟩ := cells4 gW
  clear hW
  go_quiet (first | (go_at_call 20; with_reducible exact Calls.quiet_of_same (ones_6 _)) | (go_at_call 20; with_reducible exact Calls.quiet_of_same (ones_0 _)) | fail)
  go_wp2
  go_ret
  refine ⟨ret_int (by decide), by repeat (first | exact kW | apply Chg.drew | apply Chg.drewN | apply Chg.alloc)⟩
theorem named_2 (w : World) (hg : Gt w) (op : Int) (h0 : lD (fo op) = 22) (h1 : lA (fo op) = 18) (h2 : lB (fo op) = 0) (h3 : lI (fo op) = 18) :
    Calls Tryd.prog 11 #[.int .i64 op] w fun e w' => e = .returned (.int .u32 4294967295) ∧ Kp w w' := by
  have hL : ∀ w, Gt w → Calls Tryd.prog 18 #[.int .i64 op] w fun e w' => e = .returned (.agg #[.int .u64 22, .int .u64 18, .int .u64 0, .int .u64 18]) ∧ Kp w w' := fun w h => layout_at op 22 18 0 18 h0 h1 h2 h3 w h
  clear h0 h1 h2 h3
  go_enter Tryd.func11, Tryd.ntmps11
  go_wp2_with (first | (go_at_call 18; refine (hL _ hg).mono ?_; rintro e w1 ⟨rfl, k1⟩) | fail)
  go_quiet (first | (go_at_call 19; with_reducible exact Calls.quiet_of_same (mask_0 _)) | (go_at_call 19; with_reducible exact Calls.quiet_of_same (mask_18 _)) | (go_at_call 19; with_reducible exact Calls.quiet_of_same (mask_22 _)) | fail)
  go_wp2_with (fail)
  generalize hW : (w1.alloc (.cells #[.int .u64 22, .int .u64 18, .int .u64 0, .int .u64 18] 67)).drewN nq = W
  have kW : Kp w W := by rw [← hW]; exact (k1.alloc _).drewN _
  have gW : W.heap[w1.heap.size]? = some (.cells #[.int .u64 22, .int .u64 18, .int .u64 0, .int .u64 18] 67 (0, 0)) := by rw [← hW]; exact heap_alloc_new w1 _
  obtain ⟨c0, c1, c2, c3, _⟩ := cells4 gW
  clear hW
  go_quiet (first | (go_at_call 20; with_reducible exact Calls.quiet_of_same (ones_6 _)) | (go_at_call 20; with_reducible exact Calls.quiet_of_same (ones_18 _)) | fail)
  go_wp2
  go_ret
  refine ⟨ret_int (by decide), by repeat (first | exact kW | apply Chg.drew | apply Chg.drewN | apply Chg.alloc)⟩
theorem named_3 (w : World) (hg : Gt w) (op : Int) (h0 : lD (fo op) = 0) (h1 : lA (fo op) = 22) (h2 : lB (fo op) = 18) (h3 : lI (fo op) = 18) :
    Calls Tryd.prog 11 #[.int .i64 op] w fun e w' => e = .returned (.int .u32 4294967295) ∧ Kp w w' := by
  have hL : ∀ w, Gt w → Calls Tryd.prog 18 #[.int .i64 op] w fun e w' => e = .returned (.agg #[.int .u64 0, .int .u64 22, .int .u64 18, .int .u64 18]) ∧ Kp w w' := fun w h => layout_at op 0 22 18 18 h0 h1 h2 h3 w h
  clear h0 h1 h2 h3
  go_enter Tryd.func11, Tryd.ntmps11
  go_wp2_with (first | (go_at_call 18; refine (hL _ hg).mono ?_; rintro e w1 ⟨rfl, k1⟩) | fail)
  go_quiet (first | (go_at_call 19; with_reducible exact Calls.quiet_of_same (mask_0 _)) | (go_at_call 19; with_reducible exact Calls.quiet_of_same (mask_18 _)) | (go_at_call 19; with_reducible exact Calls.quiet_of_same (mask_22 _)) | fail)
  go_wp2_with (fail)
  generalize hW : (w1.alloc (.cells #[.int .u64 0, .int .u64 22, .int .u64 18, .int .u64 18] 67)).drewN nq = W
  have kW : Kp w W := by rw [← hW]; exact (k1.alloc _).drewN _
  have gW : W.heap[w1.heap.size]? = some (.cells #[.int .u64 0, .int .u64 22, .int .u64 18, .int .u64 18] 67 (0, 0)) := by rw [← hW]; exact heap_alloc_new w1 _
  obtain ⟨c0, c1, c2, c3, _⟩ := cells4 gW
  clear hW
  go_quiet (first | (go_at_call 20; with_reducible exact Calls.quiet_of_same (ones_6 _)) | (go_at_call 20; with_reducible exact Calls.quiet_of_same (ones_18 _)) | fail)
  go_wp2
  go_ret
  refine ⟨ret_int (by decide), by repeat (first | exact kW | apply Chg.drew | apply Chg.drewN | apply Chg.alloc)⟩
theorem named_4 (w : World) (hg : Gt w) (op : Int) (h0 : lD (fo op) = 22) (h1 : lA (fo op) = 0) (h2 : lB (fo op) = 0) (h3 : lI (fo op) = 22) :
    Calls Tryd.prog 11 #[.int .i64 op] w fun e w' => e = .returned (.int .u32 4294967295) ∧ Kp w w' := by
  have hL : ∀ w, Gt w → Calls Tryd.prog 18 #[.int .i64 op] w fun e w' => e = .returned (.agg #[.int .u64 22, .int .u64 0, .int .u64 0, .int .u64 22]) ∧ Kp w w' := fun w h => layout_at op 22 0 0 22 h0 h1 h2 h3 w h
  clear h0 h1 h2 h3
  go_enter Tryd.func11, Tryd.ntmps11
  go_wp2_with (first | (go_at_call 18; refine (hL _ hg).mono ?_; rintro e w1 ⟨rfl, k1⟩) | fail)
  go_quiet (first | (go_at_call 19; with_reducible exact Calls.quiet_of_same (mask_0 _)) | (go_at_call 19; with_reducible exact Calls.quiet_of_same (mask_22 _)) | fail)
  go_wp2_with (fail)
  generalize hW : (w1.alloc (.cells #[.int .u64 22, .int .u64 0, .int .u64 0, .int .u64 22] 67)).drewN nq = W
  have kW : Kp w W := by rw [← hW]; exact (k1.alloc _).drewN _
  have gW : W.heap[w1.heap.size]? = some (.cells #[.int .u64 22, .int .u64 0, .int .u64 0, .int .u64 22] 67 (0, 0)) := by rw [← hW]; exact heap_alloc_new w1 _
  obtain ⟨c0, c1, c2, c3, _⟩ := cells4 gW
  clear hW
  go_quiet (first | (go_at_call 20; with_reducible exact Calls.quiet_of_same (ones_6 _)) | (go_at_call 20; with_reducible exact Calls.quiet_of_same (ones_22 _)) | fail)
  go_wp2
  go_ret
  refine ⟨ret_int (by decide), by repeat (first | exact kW | apply Chg.drew | apply Chg.drewN | apply Chg.alloc)⟩
theorem named_5 (w : World) (hg : Gt w) (op : Int) (h0 : lD (fo op) = 22) (h1 : lA (fo op) = 0) (h2 : lB (fo op) = 0) (h3 : lI (fo op) = 0) :
    Calls Tryd.prog 11 #[.int .i64 op] w fun e w' => e = .returned (.int .u32 4290772992) ∧ Kp w w' := by
  have hL : ∀ w, Gt w → Calls Tryd.prog 18 #[.int .i64 op] w fun e w' => e = .returned (.agg #[.int .u64 22, .int .u64 0, .int .u64 0, .int .u64 0]) ∧ Kp w w' := fun w h => layout_at op 22 0 0 0 h0 h1 h2 h3 w h
  clear h0 h1 h2 h3
  go_enter Tryd.func11, Tryd.ntmps11
  go_wp2_with (first | (go_at_call 18; refine (hL _ hg).mono ?_; rintro e w1 ⟨rfl, k1⟩) | fail)
  go_quiet (first | (go_at_call 19; with_reducible exact Calls.quiet_of_same (mask_0 _)) | (go_at_call 19; with_reducible exact Calls.quiet_of_same (mask_22 _)) | fail)
  go_wp2_with (fail)
  generalize hW : (w1.alloc (.cells #[.int .u64 22, .int .u64 0, .int .u64 0, .int .u64 0] 67)).drewN nq = W
  have kW : Kp w W := by rw [← hW]; exact (k1.alloc _).drewN _
  have gW : W.heap[w1.heap.size]? = some (.cells #[.int .u64 22, .int .u64 0, .int .u64 0, .int .u64 0] 67 (0, 0)) := by rw [← hW]; exact heap_alloc_new w1 _
  obtain ⟨c0, c1, c2, c3, _⟩ := cells4 gW
  clear hW
  go_quiet (first | (go_at_call 20; with_reducible exact Calls.quiet_of_same (ones_6 _)) | (go_at_call 20; with_reducible exact Calls.quiet_of_same (ones_0 _)) | fail)
  go_wp2
  go_ret
  refine ⟨ret_int (by decide), by repeat (first | exact kW | apply Chg.drew | apply Chg.drewN | apply Chg.alloc)⟩
theorem named_6 (w : World) (hg : Gt w) (op : Int) (h0 : lD (fo op) = 0) (h1 : lA (fo op) = 22) (h2 : lB (fo op) = 0) (h3 : lI (fo op) = 0) :
    Calls Tryd.prog 11 #[.int .i64 op] w fun e w' => e = .returned (.int .u32 4290772992) ∧ Kp w w' := by
  have hL : ∀ w, Gt w → Calls Tryd.prog 18 #[.int .i64 op] w fun e w' => e = .returned (.agg #[.int .u64 0, .int .u64 22, .int .u64 0, .int .u64 0]) ∧ Kp w w' := fun w h => layout_at op 0 22 0 0 h0 h1 h2 h3 w h
  clear h0 h1 h2 h3
  go_enter Tryd.func11, Tryd.ntmps11
  go_wp2_with (first | (go_at_call 18; refine (hL _ hg).mono ?_; rintro e w1 ⟨rfl, k1⟩) | fail)
  go_quiet (first | (go_at_call 19; with_reducible exact Calls.quiet_of_same (mask_0 _)) | (go_at_call 19; with_reducible exact Calls.quiet_of_same (mask_22 _)) | fail)
  go_wp2_with (fail)
  generalize hW : (w1.alloc (.cells #[.int .u64 0, .int .u64 22, .int .u64 0, .int .u64 0] 67)).drewN nq = W
  have kW : Kp w W := by rw [← hW]; exact (k1.alloc _).drewN _
  have gW : W.heap[w1.heap.size]? = some (.cells #[.int .u64 0, .int .u64 22, .int .u64 0, .int .u64 0] 67 (0, 0)) := by rw [← hW]; exact heap_alloc_new w1 _
  obtain ⟨c0, c1, c2, c3, _⟩ := cells4 gW
  clear hW
  go_quiet (first | (go_at_call 20; with_reducible exact Calls.quiet_of_same (ones_6 _)) | (go_at_call 20; with_reducible exact Calls.quiet_of_same (ones_0 _)) | fail)
  go_wp2
  go_ret
  refine ⟨ret_int (by decide), by repeat (first | exact kW | apply Chg.drew | apply Chg.drewN | apply Chg.alloc)⟩
theorem named_7 (w : World) (hg : Gt w) (op : Int) (h0 : lD (fo op) = 0) (h1 : lA (fo op) = 0) (h2 : lB (fo op) = 0) (h3 : lI (fo op) = 26) :
    Calls Tryd.prog 11 #[.int .i64 op] w fun e w' => e = .returned (.int .u32 4294967295) ∧ Kp w w' := by
  have hL : ∀ w, Gt w → Calls Tryd.prog 18 #[.int .i64 op] w fun e w' => e = .returned (.agg #[.int .u64 0, .int .u64 0, .int .u64 0, .int .u64 26]) ∧ Kp w w' := fun w h => layout_at op 0 0 0 26 h0 h1 h2 h3 w h
  clear h0 h1 h2 h3
  go_enter Tryd.func11, Tryd.ntmps11
  go_wp2_with (first | (go_at_call 18; refine (hL _ hg).mono ?_; rintro e w1 ⟨rfl, k1⟩) | fail)
  go_quiet (first | (go_at_call 19; with_reducible exact Calls.quiet_of_same (mask_0 _)) | fail)
  go_wp2_with (fail)
  generalize hW : (w1.alloc (.cells #[.int .u64 0, .int .u64 0, .int .u64 0, .int .u64 26] 67)).drewN nq = W
  have kW : Kp w W := by rw [← hW]; exact (k1.alloc _).drewN _
  have gW : W.heap[w1.heap.size]? = some (.cells #[.int .u64 0, .int .u64 0, .int .u64 0, .int .u64 26] 67 (0, 0)) := by rw [← hW]; exact heap_alloc_new w1 _
  obtain ⟨c0, c1, c2, c3, _⟩ := cells4 gW
  clear hW
  go_quiet (first | (go_at_call 20; with_reducible exact Calls.quiet_of_same (ones_6 _)) | (go_at_call 20; with_reducible exact Calls.quiet_of_same (ones_26 _)) | fail)
  go_wp2
  go_ret
  refine ⟨ret_int (by decide), by repeat (first | exact kW | apply Chg.drew | apply Chg.drewN | apply Chg.alloc)⟩
theorem named_8 (w : World) (hg : Gt w) (op : Int) (h0 : lD (fo op) = 0) (h1 : lA (fo op) = 0) (h2 : lB (fo op) = 0) (h3 : lI (fo op) = 0) :
    Calls Tryd.prog 11 #[.int .i64 op] w fun e w' => e = .returned (.int .u32 4227858432) ∧ Kp w w' := by
  have hL : ∀ w, Gt w → Calls Tryd.prog 18 #[.int .i64 op] w fun e w' => e = .returned (.agg #[.int .u64 0, .int .u64 0, .int .u64 0, .int .u64 0]) ∧ Kp w w' := fun w h => layout_at op 0 0 0 0 h0 h1 h2 h3 w h
  clear h0 h1 h2 h3
  go_enter Tryd.func11, Tryd.ntmps11
  go_wp2_with (first | (go_at_call 18; refine (hL _ hg).mono ?_; rintro e w1 ⟨rfl, k1⟩) | fail)
  go_quiet (first | (go_at_call 19; with_reducible exact Calls.quiet_of_same (mask_0 _)) | fail)
  go_wp2_with (fail)
  generalize hW : (w1.alloc (.cells #[.int .u64 0, .int .u64 0, .int .u64 0, .int .u64 0] 67)).drewN nq = W
  have kW : Kp w W := by rw [← hW]; exact (k1.alloc _).drewN _
  have gW : W.heap[w1.heap.size]? = some (.cells #[.int .u64 0, .int .u64 0, .int .u64 0, .int .u64 0] 67 (0, 0)) := by rw [← hW]; exact heap_alloc_new w1 _
  obtain ⟨c0, c1, c2, c3, _⟩ := cells4 gW
  clear hW
  go_quiet (first | (go_at_call 20; with_reducible exact Calls.quiet_of_same (ones_6 _)) | (go_at_call 20; with_reducible exact Calls.quiet_of_same (ones_0 _)) | fail)
  go_wp2
  go_ret
  refine ⟨ret_int (by decide), by repeat (first | exact kW | apply Chg.drew | apply Chg.drewN | apply Chg.alloc)⟩
end Go.Proofs.YtghiffpolacmiabDoor
