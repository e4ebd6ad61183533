import Derived.Test.YtghiffpolacmiaaDoorXc
import Derived.Test.YtghiffpolacmiaaDoorWg
namespace Go.Proofs.YtghiffpolacmiaaDoor
open Go.ChangeShapes Go.WideShapes Go.ChangeAt Go.RowKit
set_option linter.unusedVariables false

theorem gbuild_run {P : Program} {w : World} {ops : Array Oper} {rest : List Oper} {o : Oper} {a : Act} {Q : Exit → Act → World → Prop} (hw : Region.wanted o (yielded ops a.tmps) = true) (t : TypeId) (parts : Array (Nat × Operand)) (ho : o.op = .build t parts) (vs : Array (Nat × Value)) (hvs : (parts.map fun (i, x) => (i, a.eval x)) = vs) (v : Value) (hrun : (Instr.build t vs).run P w = .ok v w)
    (h : wpList P ops Q rest (a.put o.dst v) w) : wpList P ops Q (o :: rest) a w := by
  subst hvs
  refine wpList_wanted hw fun K hK => ?_
  unfold Oper.wp
  simp only [execOp, ho]
  simp [hrun, Result.andThen]
  exact hK _ _ h
def rgE (n : Int) : Rg := ⟨fun _ => 0, n, 0, 0, false, false⟩
theorem build25_E (w : World) (n : Int) : (Instr.build 25 #[(1, .int .u32 n)]).run Tryd.prog w = .ok (.agg (rgc (rgE n)).toArray) w := by kernel_rfl
/-- Registers written whole into a new box. -/
theorem new_rg (W : World) (g : Rg) : ∃ W', (storeVar 25 ⟨W.heap.size, 0, none⟩ (.agg (rgc g).toArray)).run Tryd.prog (W.alloc (.cells (rgc Rg.zero).toArray 25)) = .ok () W' ∧ IsRg W' W.heap.size g ∧ Kp W W' ∧ W'.heap.size = W.heap.size + 1 := by
  have n6 : (W.alloc (.cells (rgc Rg.zero).toArray 25)).heap[W.heap.size]? = some (.cells (rgc Rg.zero).toArray 25 (0, 0)) := heap_alloc_new W _
  refine ⟨_, storeAll (W.alloc (.cells (rgc Rg.zero).toArray 25)) 25 W.heap.size _ (rgc g).toArray 25 n6 rfl (by rw [size25]; rfl) (by simpa using rgc_one g), setRow_heap _ _ _ _ 25 (0, 0) n6, Chg.setRow ((Chg.refl W _).alloc _) (.inr (Nat.le_refl _)) _, by simp [World.setRow]⟩
theorem reset_any (w : World) (n : Int) :
    Calls Tryd.prog 11 #[.int .u32 n] w fun e w' => e = .returned (.agg (rgc (rgE n)).toArray) ∧ Kp w w' := by
  obtain ⟨w1, hst, r1, k1, z1⟩ := new_rg w (rgE n)
  have hz := fun w => zero25 w
  have hbu := fun w => build25_E w n
  have KE : Hid (w1.heap[w.heap.size]? = some (.cells (rgc (rgE n)).toArray 25 (0, 0)) ∧ Kp w w1 ∧ (rgc (rgE n)).toArray.size = 21) := ⟨r1, k1, rfl⟩
  clear r1 k1 z1
  generalize (rgc (rgE n)).toArray = D at *
  generalize (rgc Rg.zero).toArray = Z at *
  go_enter Tryd.func11, Tryd.ntmps11
  go_wp2_with (first
    | (refine wpList_alloc_zero _ rfl 25 Z rfl (hz _) ?_; simp only [Act.put, List.setIfInBounds_toArray, List.set_cons_zero, List.set_cons_succ])
    | (refine wpList_store_row rfl 25 (.tmp 2) (.tmp 4) rfl w.heap.size 0 D rfl rfl _ hst ?_)
    | (refine wpList_build_run rfl 25 _ rfl #[(1, .int .u32 n)] (by simp [Act.eval]) (.agg D) (hbu _) ?_))
  refine ⟨rfl, .agg D, ?_, rfl, KE.out.2.1⟩
  refine results_cell_row rfl _ _ w.heap.size 25 D (0, 0) _ rfl KE.out.1 Tryd.underlying25 rfl ?_
  rw [KE.out.2.2]; exact size25
def z38 : Array Value := #[.int .i64 0, .int .i64 0, .int .u32 0, .int .i64 0, .int .u32 0, .int .i64 0, .bool false, .int .u32 0, .bool false, .int .u64 0]
theorem build38_0 (w : World) : (Instr.build 38 #[]).run Tryd.prog w = .ok (.agg z38) w := by kernel_rfl
theorem zero38' (w : World) : (zeroValue 38).run Tryd.prog w = .ok (.agg z38) w := zero38 w
theorem new_rs (W : World) : ∃ W', (storeVar 38 ⟨W.heap.size, 0, none⟩ (.agg z38)).run Tryd.prog (W.alloc (.cells z38 38)) = .ok () W' ∧ W'.heap[W.heap.size]? = some (.cells z38 38 (0, 0)) ∧ Kp W W' ∧ W'.heap.size = W.heap.size + 1 := by
  have n6 : (W.alloc (.cells z38 38)).heap[W.heap.size]? = some (.cells z38 38 (0, 0)) := heap_alloc_new W _
  refine ⟨_, storeAll (W.alloc (.cells z38 38)) 38 W.heap.size _ z38 38 n6 rfl (by rw [size38]; rfl) (by simp [z38, Value.oneCell']), setRow_heap _ _ _ _ 38 (0, 0) n6, Chg.setRow ((Chg.refl W _).alloc _) (.inr (Nat.le_refl _)) _, by simp [World.setRow]⟩
set_option maxRecDepth 100000 in
theorem step_nilp (w : World) (bb : Nat) :
    Calls Tryd.prog 9 #[.pointer none, .iface 27 (.pointer (some ⟨bb, 0, none⟩))] w fun e w' => e = .returned (.agg z38) ∧ Kp w w' := by
  obtain ⟨w1, hst, n1, k1, z1⟩ := new_rs w
  have hz := fun w => zero38' w
  have hbu := fun w => build38_0 w
  have KE : Hid (w1.heap[w.heap.size]? = some (.cells z38 38 (0, 0)) ∧ Kp w w1 ∧ z38.size = 10) := ⟨n1, k1, rfl⟩
  clear n1 k1 z1
  generalize z38 = D at *
  go_enter Tryd.func9, Tryd.ntmps9
  go_wp2_with (first
    | (refine wpList_alloc_zero _ rfl 38 D rfl (hz _) ?_; simp only [Act.put, List.setIfInBounds_toArray, List.set_cons_zero, List.set_cons_succ])
    | (refine wpList_store_row rfl 38 (.tmp 4) (.tmp 12) rfl w.heap.size 0 D rfl rfl _ hst ?_)
    | (refine wpList_build_run rfl 38 _ rfl #[] rfl (.agg D) (hbu _) ?_))
  refine ⟨rfl, .agg D, ?_, rfl, KE.out.2.1⟩
  refine results_cell_row rfl _ _ w.heap.size 38 D (0, 0) _ rfl KE.out.1 Tryd.underlying38 rfl ?_
  rw [KE.out.2.2]; exact size38
set_option maxRecDepth 100000 in
theorem step_nili (w : World) (G : Nat) :
    Calls Tryd.prog 9 #[.pointer (some ⟨G, 0, none⟩), .nilIface] w fun e w' => e = .returned (.agg z38) ∧ Kp w w' := by
  obtain ⟨w1, hst, n1, k1, z1⟩ := new_rs w
  have hz := fun w => zero38' w
  have hbu := fun w => build38_0 w
  have KE : Hid (w1.heap[w.heap.size]? = some (.cells z38 38 (0, 0)) ∧ Kp w w1 ∧ z38.size = 10) := ⟨n1, k1, rfl⟩
  clear n1 k1 z1
  generalize z38 = D at *
  go_enter Tryd.func9, Tryd.ntmps9
  go_wp2_with (first
    | (refine wpList_alloc_zero _ rfl 38 D rfl (hz _) ?_; simp only [Act.put, List.setIfInBounds_toArray, List.set_cons_zero, List.set_cons_succ])
    | (refine wpList_store_row rfl 38 (.tmp 4) (.tmp 12) rfl w.heap.size 0 D rfl rfl _ hst ?_)
    | (refine wpList_build_run rfl 38 _ rfl #[] rfl (.agg D) (hbu _) ?_))
  refine ⟨rfl, .agg D, ?_, rfl, KE.out.2.1⟩
  refine results_cell_row rfl _ _ w.heap.size 38 D (0, 0) _ rfl KE.out.1 Tryd.underlying38 rfl ?_
  rw [KE.out.2.2]; exact size38
theorem eql38 (w : World) : (binOp BinOp.eql 38 (.agg z38) (.agg z38)).run Tryd.prog w = .ok (.bool true) w := by kernel_rfl
theorem guard38 : Tryd.prog.eqGuardType Tryd.prog.depth 38 = false := by kernel_rfl
theorem eqg38 (w : World) (b : BinOp) (x y : Operand) (A C : Array Value) : (eqGuard b 38 x y (.agg A) (.agg C)).run Tryd.prog w = .ok () w := run_eqGuard_agg w b 38 x y A C guard38
end Go.Proofs.YtghiffpolacmiaaDoor
