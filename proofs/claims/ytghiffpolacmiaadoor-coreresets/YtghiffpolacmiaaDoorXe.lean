import Derived.Test.YtghiffpolacmiaaDoorXd
namespace Go.Proofs.YtghiffpolacmiaaDoor
open Go.ChangeShapes Go.WideShapes Go.ChangeAt Go.RowKit
set_option linter.unusedVariables false

set_option maxRecDepth 100000 in
set_option maxHeartbeats 4000000 in
theorem resets_walk (w : World) (n : Int) (g : Rg) (wv vv cv fv : Value) (ws vs cy fa : List Int) (tm ln : Int) (od : Bool) (h : Bn w wv vv cv fv ws vs cy fa) :
    Calls Tryd.prog 5 #[.int .u32 n, .agg (rgc g).toArray, .agg #[wv, vv, cv, fv, .int .u64 tm, .int .i64 ln, .bool od]] w fun e w' => e = .returned (.bool true) ∧ Kp w w' := by
  have h0 := h
  obtain ⟨a0, n0, c0, rfl⟩ := h.rw.slice
  obtain ⟨a1, n1, c1, rfl⟩ := h.rv.slice
  obtain ⟨a2, n2, c2, rfl⟩ := h.rc.slice
  obtain ⟨a3, n3, c3, rfl⟩ := h.rf.slice
  obtain ⟨w1, hw1⟩ : ∃ w1, w1 = w.alloc (.cells (rgc g).toArray 25) := ⟨_, rfl⟩
  have k1 : Kp w w1 := by rw [hw1]; exact (Chg.refl w _).alloc _
  have r1 : IsRg w1 w.heap.size g := by rw [hw1]; exact heap_alloc_new w _
  have z1 : w1.heap.size = w.heap.size + 1 := by rw [hw1]; simp
  obtain ⟨w2, hw2⟩ : ∃ w2, w2 = w1.alloc (.cells #[.slice a0 n0 c0, .slice a1 n1 c1, .slice a2 n2 c2, .slice a3 n3 c3, .int .u64 tm, .int .i64 ln, .bool od] 47) := ⟨_, rfl⟩
  have k2 : Kp w1 w2 := by rw [hw2]; exact (Chg.refl w1 _).alloc _
  have nb : w2.heap[w1.heap.size]? = some (.cells #[.slice a0 n0 c0, .slice a1 n1 c1, .slice a2 n2 c2, .slice a3 n3 c3, .int .u64 tm, .int .i64 ln, .bool od] 47 (0, 0)) := by rw [hw2]; exact heap_alloc_new w1 _
  have r2 := r1.kp k2
  have hz := fun w => zero25 w
  have hz8 := fun w => zero38' w
  have u25 := Tryd.underlying25
  have u38 := Tryd.underlying38
  have l25 : (Tryd.prog.info? 25).map (·.size) = some (rgc g).length := by rw [size25]; rfl
  have hR1 := fun W => reset_any W n
  have hR2 := fun W => reset_any W 8
  have hP := fun W bb => step_nilp W bb
  have hQ := fun W G => step_nili W G
  have hBd := fun W (k : Kp w W) => board_any W _ _ _ _ ws vs cy fa tm ln od (h0.kp k)
  have HB : Hid (Kp w w2 ∧ IsRg w2 w.heap.size g ∧ w2.heap[w1.heap.size]? = some (.cells #[.slice a0 n0 c0, .slice a1 n1 c1, .slice a2 n2 c2, .slice a3 n3 c3, .int .u64 tm, .int .i64 ln, .bool od] 47 (0, 0)) ∧ w1.heap.size = w.heap.size + 1) := ⟨Kp.trans k1 k2, r2, nb, z1⟩
  rw [hw1] at hw2
  clear h h0 k1 k2 r1 r2 nb hw1 z1
  go_enter Tryd.func5, Tryd.ntmps5
  go_upto_region 1 with (first | (refine wpList_box_run rfl 25 (.tmp 1) rfl (rgc g).toArray rfl ?_))
  rw [← hw2]
  clear hw2
  go_upto_region 2 with (first
    | (go_at_call 11; refine (hR1 _).mono ?_; rintro e w3 ⟨rfl, k3⟩; obtain ⟨w4, hst4, r4, k4, z4⟩ := new_rg w3 (rgE n))
    | (refine wpList_store_row rfl 25 (.tmp 7) (.tmp 15) rfl w3.heap.size 0 (rgc (rgE n)).toArray rfl rfl _ hst4 ?_))
  have Z4 : Hid (w4.heap.size = w3.heap.size + 1) := z4
  clear hst4 hR1 z4
  obtain ⟨w5, hst5, r5, k5, z5⟩ := new_rg w4 g
  have Z5 : Hid (w5.heap.size = w4.heap.size + 1) := z5
  clear z5
  have K4 : Kp w2 w4 := Kp.trans k3 k4
  have rg4 := (HB.out.2.1.kp K4).range
  go_upto_region 3 with (first
    | (refine wpList_load_mid rfl 25 (.tmp 4) rfl w.heap.size 0 rfl (rgc g) _ rg4 u25 rfl l25 ?_)
    | (refine wpList_store_row rfl 25 (.tmp 8) (.tmp 16) rfl w4.heap.size 0 (rgc g).toArray rfl rfl _ hst5 ?_))
  clear hst5 rg4
  have K5 : Kp w2 w5 := Kp.trans K4 k5
  have nb5 := Kp.heap K5 HB.out.2.2.1
  rw [HB.out.2.2.2] at nb5
  have hBd5 := hBd w5 (Kp.trans HB.out.1 K5)
  have rb5 := rangeOf (o := 0) nb5 [.slice a0 n0 c0, .slice a1 n1 c1, .slice a2 n2 c2, .slice a3 n3 c3, .int .u64 tm, .int .i64 ln, .bool od] (fun j v hv => by rw [Nat.zero_add, ← Array.getElem?_toList]; exact hv)
  have u47 := Tryd.underlying47
  have l47 : (Tryd.prog.info? 47).map (·.size) = some 7 := by kernel_rfl
  go_upto_region 4 with (first
    | (refine wpList_load_mid rfl 47 (.tmp 5) rfl (w.heap.size + 1) 0 rfl [.slice a0 n0 c0, .slice a1 n1 c1, .slice a2 n2 c2, .slice a3 n3 c3, .int .u64 tm, .int .i64 ln, .bool od] _ rb5 u47 rfl l47 ?_)
    | (go_at_call 12; refine hBd5.mono ?_; rintro e w6 ⟨cb, a, b, c, d, rfl, i6, k6, l6, t6⟩))
  clear hBd hBd5 rb5 u47 l47 nb5
  have hq8 : ∀ w, (binOp BinOp.eql 38 (.agg #[.int .i64 0, .int .i64 0, .int .u32 0, .int .i64 0, .int .u32 0, .int .i64 0, .bool false, .int .u32 0, .bool false, .int .u64 0]) (.agg #[.int .i64 0, .int .i64 0, .int .u32 0, .int .i64 0, .int .u32 0, .int .i64 0, .bool false, .int .u32 0, .bool false, .int .u64 0])).run Tryd.prog w = .ok (.bool true) w := fun w => eql38 w
  have hg8 : ∀ w x y, (eqGuard .eql 38 x y (.agg #[.int .i64 0, .int .i64 0, .int .u32 0, .int .i64 0, .int .u32 0, .int .i64 0, .bool false, .int .u32 0, .bool false, .int .u64 0]) (.agg #[.int .i64 0, .int .i64 0, .int .u32 0, .int .i64 0, .int .u32 0, .int .i64 0, .bool false, .int .u32 0, .bool false, .int .u64 0])).run Tryd.prog w = .ok () w := fun w x y => eqg38 w .eql x y _ _
  have l38 : (Tryd.prog.info? 38).map (·.size) = some 10 := size38
  simp only [z38] at hP hQ hz8
  go_upto_region 5 with (go_at_call 9; refine (hP _ _).mono ?_; rintro e w7 ⟨rfl, k7⟩)
  obtain ⟨w8, hw8⟩ : ∃ w8, w8 = w7.alloc (.cells #[.int .i64 0, .int .i64 0, .int .u32 0, .int .i64 0, .int .u32 0, .int .i64 0, .bool false, .int .u32 0, .bool false, .int .u64 0] 38) := ⟨_, rfl⟩
  have n8 : w8.heap[w7.heap.size]? = some (.cells #[.int .i64 0, .int .i64 0, .int .u32 0, .int .i64 0, .int .u32 0, .int .i64 0, .bool false, .int .u32 0, .bool false, .int .u64 0] 38 (0, 0)) := by rw [hw8]; exact heap_alloc_new w7 _
  have k8 : Kp w7 w8 := by rw [hw8]; exact (Chg.refl w7 _).alloc _
  rw [← hw8]
  clear hw8
  go_upto_region 6 with (go_at_call 9; refine (hQ _ _).mono ?_; rintro e w9 ⟨rfl, k9⟩)
  obtain ⟨w10, hw10⟩ : ∃ w10, w10 = w9.alloc (.cells #[.int .i64 0, .int .i64 0, .int .u32 0, .int .i64 0, .int .u32 0, .int .i64 0, .bool false, .int .u32 0, .bool false, .int .u64 0] 38) := ⟨_, rfl⟩
  have n10 : w10.heap[w9.heap.size]? = some (.cells #[.int .i64 0, .int .i64 0, .int .u32 0, .int .i64 0, .int .u32 0, .int .i64 0, .bool false, .int .u32 0, .bool false, .int .u64 0] 38 (0, 0)) := by rw [hw10]; exact heap_alloc_new w9 _
  have k10 : Kp w9 w10 := by rw [hw10]; exact (Chg.refl w9 _).alloc _
  rw [← hw10]
  clear hw10 hP hQ
  have K10 : Kp w6 w10 := Kp.trans k7 (Kp.trans k8 (Kp.trans k9 k10))
  have c7 := (i6.kp K10).cell 7 (.slice none 0 0) rfl
  go_upto_region 7 with (fail)
  clear c7
  go_upto_region 8 with (first
    | (go_at_call 11; refine (hR2 _).mono ?_; rintro e w11 ⟨rfl, k11⟩; obtain ⟨w12, hst12, r12, k12, z12⟩ := new_rg w11 (rgE 8); clear z12)
    | (refine wpList_store_row rfl 25 (.tmp 13) (.tmp 28) rfl w11.heap.size 0 (rgc (rgE 8)).toArray rfl rfl _ hst12 ?_))
  clear hst12 hR2
  have K12 : Kp w10 w12 := Kp.trans k11 k12
  have K6 : Kp w6 w12 := Kp.trans K10 K12
  have K52 : Kp w5 w12 := Kp.trans k6 K6
  have ra0 := (HB.out.2.1.kp (Kp.trans K5 K52)).range
  have ra1 := ((r4.kp k5).kp K52).range
  have ra2 := (r5.kp K52).range
  have cpc := r12.cell 16 (.int .u32 8) rfl
  have rs8 := rangeOf (o := 0) (Kp.heap (Kp.trans k9 (Kp.trans k10 K12)) n8) [.int .i64 0, .int .i64 0, .int .u32 0, .int .i64 0, .int .u32 0, .int .i64 0, .bool false, .int .u32 0, .bool false, .int .u64 0] (fun j v hv => by rw [Nat.zero_add, ← Array.getElem?_toList]; exact hv)
  have rs10 := rangeOf (o := 0) (Kp.heap K12 n10) [.int .i64 0, .int .i64 0, .int .u32 0, .int .i64 0, .int .u32 0, .int .i64 0, .bool false, .int .u32 0, .bool false, .int .u64 0] (fun j v hv => by rw [Nat.zero_add, ← Array.getElem?_toList]; exact hv)
  have hqE := fun w => eql25 (rgE n) w
  have hqG := fun w => eql25 g w
  have hgE := fun w x y => eqg25 w .eql x y (rgc (rgE n)).toArray (rgc (rgE n)).toArray
  have hgG := fun w x y => eqg25 w .eql x y (rgc g).toArray (rgc g).toArray
  have hbE := fun w => build25_E w n
  have lE : (Tryd.prog.info? 25).map (·.size) = some (rgc (rgE n)).length := by rw [size25]; rfl
  have HE : Hid (Kp w w12) := Kp.trans HB.out.1 (Kp.trans K5 K52)
  clear hz hz8 r4 r5 r12 i6 l6 t6 n8 n10 K4 K5 K6 K10 K12 K52 k3 k4 k5 k6 k7 k8 k9 k10 k11 k12 HB
  generalize rgc (rgE n) = LE at *
  generalize rgc g = LG at *
  go_wp2_with (first
    | (refine gload_mid (by kernel_rfl) 25 (.tmp 7) rfl w3.heap.size 0 rfl LE _ ra1 u25 rfl lE ?_; simp only [Act.put, List.setIfInBounds_toArray, List.set_cons_zero, List.set_cons_succ])
    | (refine gbuild_run (by kernel_rfl) 25 _ rfl #[(1, .int .u32 n)] (by simp [Act.eval]) (.agg LE.toArray) (hbE _) ?_; simp only [Act.put, List.setIfInBounds_toArray, List.set_cons_zero, List.set_cons_succ])
    | (refine gbinop_run (by kernel_rfl) .eql 25 25 (.tmp 29) (.tmp 31) rfl (.agg LE.toArray) (.agg LE.toArray) (.bool true) rfl rfl (hgE _ _ _) (hqE _) ?_; simp only [Act.put, List.setIfInBounds_toArray, List.set_cons_zero, List.set_cons_succ])
    | (refine gload_mid (by kernel_rfl) 38 (.tmp 10) rfl w7.heap.size 0 rfl [.int .i64 0, .int .i64 0, .int .u32 0, .int .i64 0, .int .u32 0, .int .i64 0, .bool false, .int .u32 0, .bool false, .int .u64 0] _ rs8 u38 rfl l38 ?_; simp only [Act.put, List.setIfInBounds_toArray, List.set_cons_zero, List.set_cons_succ])
    | (refine gbinop_run (by kernel_rfl) .eql 38 38 (.tmp 39) (.tmp 40) rfl (.agg #[.int .i64 0, .int .i64 0, .int .u32 0, .int .i64 0, .int .u32 0, .int .i64 0, .bool false, .int .u32 0, .bool false, .int .u64 0]) (.agg #[.int .i64 0, .int .i64 0, .int .u32 0, .int .i64 0, .int .u32 0, .int .i64 0, .bool false, .int .u32 0, .bool false, .int .u64 0]) (.bool true) rfl rfl (hg8 _ _ _) (hq8 _) ?_; simp only [Act.put, List.setIfInBounds_toArray, List.set_cons_zero, List.set_cons_succ])
    | (refine gload_mid (by kernel_rfl) 38 (.tmp 11) rfl w9.heap.size 0 rfl [.int .i64 0, .int .i64 0, .int .u32 0, .int .i64 0, .int .u32 0, .int .i64 0, .bool false, .int .u32 0, .bool false, .int .u64 0] _ rs10 u38 rfl l38 ?_; simp only [Act.put, List.setIfInBounds_toArray, List.set_cons_zero, List.set_cons_succ])
    | (refine gbinop_run (by kernel_rfl) .eql 38 38 (.tmp 44) (.tmp 45) rfl (.agg #[.int .i64 0, .int .i64 0, .int .u32 0, .int .i64 0, .int .u32 0, .int .i64 0, .bool false, .int .u32 0, .bool false, .int .u64 0]) (.agg #[.int .i64 0, .int .i64 0, .int .u32 0, .int .i64 0, .int .u32 0, .int .i64 0, .bool false, .int .u32 0, .bool false, .int .u64 0]) (.bool true) rfl rfl (hg8 _ _ _) (hq8 _) ?_; simp only [Act.put, List.setIfInBounds_toArray, List.set_cons_zero, List.set_cons_succ])
    | (refine gload_mid (by kernel_rfl) 25 (.tmp 8) rfl w4.heap.size 0 rfl LG _ ra2 u25 rfl l25 ?_; simp only [Act.put, List.setIfInBounds_toArray, List.set_cons_zero, List.set_cons_succ])
    | (refine gload_mid (by kernel_rfl) 25 (.tmp 4) rfl w.heap.size 0 rfl LG _ ra0 u25 rfl l25 ?_; simp only [Act.put, List.setIfInBounds_toArray, List.set_cons_zero, List.set_cons_succ])
    | (refine gbinop_run (by kernel_rfl) .eql 25 25 (.tmp 49) (.tmp 50) rfl (.agg LG.toArray) (.agg LG.toArray) (.bool true) rfl rfl (hgG _ _ _) (hqG _) ?_; simp only [Act.put, List.setIfInBounds_toArray, List.set_cons_zero, List.set_cons_succ]))
  go_ret
  exact ⟨rfl, HE.out⟩
end Go.Proofs.YtghiffpolacmiaaDoor
