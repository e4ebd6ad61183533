import Derived.Test.YthgpcmickgcdhaaDg
namespace Go.Proofs.Ythgpcmickgcdhaa
open Go.ChangeShapes Go.WideShapes Go.ChangeAt Go.RowKit
set_option linter.unusedVariables false
def Z31 : Array Value := #[.int .i64 0, .int .u32 0, .int .i64 0, .int .i64 0, .int .i64 0, .int .i64 0, .int .i64 0, .int .u64 0, .slice none 0 0, .slice none 0 0, .slice none 0 0, .slice none 0 0]
theorem zero31 (w : World) : (zeroValue 31).run Try.prog w = .ok (.agg Z31) w := Try.zeroValue31 w
theorem store31 (w : World) (b : Nat) (cur C : Array Value) (h : w.heap[b]? = some (.cells cur 31 (0, 0))) (hc : cur.size = 12) (hC : C.size = 12) (h1 : ∀ v ∈ C.toList, v.oneCell' = true) : (storeVar 31 ⟨b, 0, none⟩ (.agg C)).run Try.prog w = .ok () (w.setRow b C) := by
  have hi : (Try.prog.info? 31).map (·.size) = some C.size := by rw [hC]; kernel_rfl
  rw [run_storeVar_row (P := Try.prog) w b 0 31 C cur 31 h (by omega) hi h1]
  refine congrArg (fun z => Result.ok () (World.setRow w b z)) ?_
  rw [List.take_zero, List.nil_append, List.drop_of_length_le (by simp; omega), List.append_nil]
set_option maxHeartbeats 4000000 in
set_option maxRecDepth 10000 in
theorem lent_any (w : World) (p : Inp) (h : IsIn w p) (pg mj : Int) (hpg : p.A.a0 = .int .i64 pg) (hmj : p.A.a7 = .int .u64 mj) :
    Calls Try.prog 7 #[.agg (inV p).toArray] w fun e w' => ∃ A : CfA, e = .returned (.agg (cfC A (cutC p)).toArray) ∧ LtE w w' A p := by
  have l31 : (Try.prog.info? 31).map (·.size) = some (inV p).length := by show _ = some 12; kernel_rfl
  have hU31 := Try.underlying31
  obtain ⟨w1, hw1⟩ : ∃ w1, w1 = w.alloc (.cells (inV p).toArray 31) := ⟨_, rfl⟩
  have g1 : w1.heap[w.heap.size]? = some (.cells (inV p).toArray 31 (0, 0)) := by rw [hw1]; exact heap_alloc_new w _
  have hs1 : w1.heap.size = w.heap.size + 1 := by rw [hw1]; simp
  have k1 : Kp w w1 := by rw [hw1]; exact (Chg.refl _ _).alloc _
  obtain ⟨w2, hw2⟩ : ∃ w2, w2 = w1.alloc (.cells Z31 31) := ⟨_, rfl⟩
  have k2 : Kp w1 w2 := by rw [hw2]; exact (Chg.refl _ _).alloc _
  have g2 : w2.heap[w1.heap.size]? = some (.cells Z31 31 (0, 0)) := by rw [hw2]; exact heap_alloc_new w1 _
  have r0 : w2.rangeAt w.heap.size 0 (inV p) := fun j v hv => by rw [Nat.zero_add, (cells_at (k2.heap g1) j).1, List.getElem?_toArray]; exact hv
  have hL := loan_any w2 p (h.kp (Kp.trans k1 k2)) pg mj hpg hmj
  have HW1 : Hid (w1 = w.alloc (.cells (inV p).toArray 31)) := hw1
  have HW2 : Hid (w2 = w1.alloc (.cells Z31 31)) := hw2
  have HK : Hid (Kp w w2 ∧ w2.heap[w1.heap.size]? = some (.cells Z31 31 (0, 0)) ∧ w.heap.size ≤ w1.heap.size) := ⟨Kp.trans k1 k2, g2, by omega⟩
  have hz := fun w => zero31 w
  have hZs : Z31.size = 12 := rfl
  obtain ⟨LC, hLC⟩ : ∃ LC, LC = inV p := ⟨_, rfl⟩
  rw [← hLC] at HW1 l31 r0 hL ⊢
  clear hw1 hw2 g1 g2 k1 k2 hLC h hs1
  generalize Z31 = Z at *
  go_enter Try.func7, Try.ntmps7
  go_upto_region 1 with (first | (refine wpList_box_run rfl 31 (.tmp 0) rfl LC.toArray rfl ?_; simp only [Act.put, List.setIfInBounds_toArray, List.set_cons_zero, List.set_cons_succ]) | (refine wpList_alloc_zero _ rfl 31 Z rfl (hz _) ?_; simp only [Act.put, List.setIfInBounds_toArray, List.set_cons_zero, List.set_cons_succ]))
  rw [← HW1.out, ← HW2.out]
  go_wp2_with (first | (refine wpList_load_mid rfl 31 (.tmp 1) rfl w.heap.size 0 rfl LC _ r0 hU31 rfl l31 ?_; simp only [Act.put, List.setIfInBounds_toArray, List.set_cons_zero, List.set_cons_succ]) | fail)
  go_at_call 11
  refine hL.mono ?_
  rintro e w3 ⟨X, rfl, hE⟩
  clear hL r0
  obtain ⟨A, hT, rX⟩ := hE.lent
  have g3 := hT.kp.heap HK.out.2.1
  have hst := store31 w3 w1.heap.size Z (cfC A (cutC p)).toArray g3 hZs rfl (fun v hv => hT.one v (by simpa using hv))
  have g4 := setRow_heap w3 w1.heap.size _ (cfC A (cutC p)).toArray 31 _ g3
  obtain ⟨w4, hw4⟩ : ∃ w4, w4 = w3.setRow w1.heap.size (cfC A (cutC p)).toArray := ⟨_, rfl⟩
  rw [← hw4] at hst g4
  have HT : Hid (LtE w w4 A p ∧ w4.heap[w1.heap.size]? = some (.cells (cfC A (cutC p)).toArray 31 (0, 0)) ∧ (Try.prog.info? 31).map (·.size) = some (cfC A (cutC p)).toArray.size) := by
    have hb : w1.heap.size < w2.heap.size := hp_lt HK.out.2.1
    have kc : Chg w3 w4 (fun k => k = w1.heap.size) := by rw [hw4]; exact Chg.setRow (S := fun k => k = w1.heap.size) (Chg.refl w3 _) (.inl rfl) _
    exact ⟨hT.later HK.out.1 kc (fun i e => by omega) (fun i e => by have := HK.out.2.2; omega), g4, size31 A (cutC p)⟩
  have l31b := size31 A (cutC p)
  obtain ⟨LD, hLD⟩ : ∃ LD, LD = cfC A (cutC p) := ⟨_, rfl⟩
  rw [← hLD] at rX hst l31b
  have HLD : Hid (LD = cfC A (cutC p)) := hLD
  clear hE hT g3 g4 hw4 hLD HW1 HW2 l31
  go_wp2_with (first | (refine wpList_load_mid rfl 31 (.tmp 8) rfl X 0 rfl LD _ rX hU31 rfl l31b ?_; simp only [Act.put, List.setIfInBounds_toArray, List.set_cons_zero, List.set_cons_succ]) | (refine wpList_store_row rfl 31 (.tmp 2) (.tmp 9) rfl w1.heap.size 0 LD.toArray rfl rfl _ hst ?_; simp only [Act.put]) | fail)
  have g5 := HT.out.2.1
  refine ⟨rfl, .agg (cfC A (cutC p)).toArray, ?_, A, rfl, HT.out.1⟩
  exact results_cell_row rfl _ _ w1.heap.size 31 (cfC A (cutC p)).toArray (0, 0) _ rfl g5 Try.underlying31 rfl HT.out.2.2
end Go.Proofs.Ythgpcmickgcdhaa
