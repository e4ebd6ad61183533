import Derived.Test.YtghiffpolacmiaaRows
import Derived.WalkKit
import Derived.ProofKit
import Derived.OpenShut
import Derived.Laws.StructEq
import Derived.Deep.MidRow
import Derived.Deep.Cut
import Derived.Below
import Derived.Laws.OwnMore
namespace Go.Proofs.Ytghiffpolacmiaa
open Go.ChangeShapes Go.WideShapes Go.ChangeAt Go.RowKit
set_option linter.unusedVariables false

theorem own : ownKnob Try.prog.godebug = none := by kernel_rfl

/-- The walk at a build, told by its run. -/
theorem wpList_build_run {P : Program} {w : World} {ops : Array Oper} {rest : List Oper} {o : Oper} {a : Act} {Q : Exit → Act → World → Prop} (hgd : o.guard = none) (t : TypeId) (parts : Array (Nat × Operand)) (ho : o.op = .build t parts) (vs : Array (Nat × Value)) (hvs : (parts.map fun (i, x) => (i, a.eval x)) = vs) (v : Value) (hrun : (Instr.build t vs).run P w = .ok v w)
    (h : wpList P ops Q rest (a.put o.dst v) w) : wpList P ops Q (o :: rest) a w := by
  subst hvs
  refine wpList_plain hgd fun K hK => ?_
  unfold Oper.wp
  simp only [execOp, ho]
  simp [hrun, Result.andThen]
  exact hK _ _ h
/-- The walk at a box of a great value. -/
theorem wpList_box_run {P : Program} {w : World} {ops : Array Oper} {rest : List Oper} {o : Oper} {a : Act} {Q : Exit → Act → World → Prop} (hgd : o.guard = none) (t : TypeId) (x : Operand) (ho : o.op = .box t x) (Z : Array Value) (hx : a.eval x = .agg Z)
    (h : wpList P ops Q rest (a.put o.dst (.pointer (some ⟨w.heap.size, 0, none⟩))) (w.alloc (.cells Z t))) : wpList P ops Q (o :: rest) a w := by
  refine wpList_plain hgd fun K hK => ?_
  unfold Oper.wp
  simp [execOp, ho, Instr.box, hx, newVar, newRow, Value.cells, Result.andThen]
  exact hK _ _ h
theorem wpList_alloc_zero {P : Program} (w : World) {ops : Array Oper} {rest : List Oper} {o : Oper} {a : Act} {Q : Exit → Act → World → Prop} (hgd : o.guard = none) (t : TypeId) (z : Array Value)
    (ho : o.op = .alloc t) (hz : (zeroValue t).run P w = .ok (.agg z) w)
    (h : wpList P ops Q rest (a.put o.dst (.pointer (some ⟨w.heap.size, 0, none⟩))) (w.alloc (.cells z t))) : wpList P ops Q (o :: rest) a w := by
  refine wpList_plain hgd fun K hK => ?_
  unfold Oper.wp
  simp [execOp, ho, Instr.alloc, hz, newVar, newRow, Value.cells, Result.andThen]
  exact hK _ _ h
section
variable {P : Program}
theorem run_storeVar_row (w : World) (b o : Nat) (ty : TypeId) (cells : Array Value) (cur : Array Value) (T : TypeId) (hb : w.heap[b]? = some (.cells cur T (0, 0))) (hl : o + cells.size ≤ cur.size) (hi : (P.info? ty).map (·.size) = some cells.size) (h1 : ∀ v ∈ cells.toList, v.oneCell' = true) :
    (storeVar ty ⟨b, o, none⟩ (.agg cells)).run P w = .ok () (w.setRow b (cur.toList.take o ++ cells.toList ++ cur.toList.drop (o + cells.size)).toArray) := by
  have := run_storeCells_at P b o T cells.toList 0 cur w hb (by simpa using hl) h1
  cases hq : P.info? ty with
  | none => simp [hq] at hi
  | some i =>
    have hs : cells.size = i.size := by simp [hq] at hi; omega
    simp only [Nat.add_zero, Array.length_toList] at this
    simp [storeVar, sizeOf, typeInfo, hq, Value.cells, hs] at this ⊢
    simp [this]
theorem wpList_store_row {ops : Array Oper} {rest : List Oper} {op : Oper} {a : Act} {w : World} {Q : Exit → Act → World → Prop} (hgd : op.guard = none) (ty : TypeId) (x y : Operand) (ho : op.op = .store ty x y)
    (b o : Nat) (cells : Array Value) (hx : a.eval x = .pointer (some ⟨b, o, none⟩)) (hy : a.eval y = .agg cells) (w' : World)
    (hr : (storeVar ty ⟨b, o, none⟩ (.agg cells)).run P w = .ok () w')
    (h : wpList P ops Q rest (a.put op.dst undef) w') : wpList P ops Q (op :: rest) a w := by
  refine wpList_plain hgd fun K hK => ?_
  unfold Oper.wp execOp
  simp only [ho, hx, hy, Instr.storeAt, Instr.sureAddr, Sem.run_bind, Sem.run_pure, Result.andThen_ok, hr]
  exact hK _ _ h
end

theorem wpList_wanted {P : Program} {ops : Array Oper} {Q : Exit → Act → World → Prop} {a : Act} {w : World} {rest : List Oper} {o : Oper} (hw : Region.wanted o (yielded ops a.tmps) = true)
    (h : ∀ K : Act → World → Prop, (∀ a w, wpList P ops Q rest a w → K a w) → o.wp P a w K Q) : wpList P ops Q (o :: rest) a w :=
  wpList_step fun K hK => by rw [if_pos hw]; exact h K hK
theorem gload_mid {P : Program} {ops : Array Oper} {rest : List Oper} {op : Oper} {a : Act} {w : World} {Q : Exit → Act → World → Prop} (hw : Region.wanted op (yielded ops a.tmps) = true) (ty : TypeId) (x : Operand) (ho : op.op = .load ty x)
    (b o : Nat) (hx : a.eval x = .pointer (some ⟨b, o, none⟩)) (cs : List Value) (d : TypeDesc) (hc : w.rangeAt b o cs)
    (hu : P.underlying ty = some d) (hd : d.isRow = true) (hi : (P.info? ty).map (·.size) = some cs.length)
    (h : wpList P ops Q rest (a.put op.dst (.agg cs.toArray)) w) : wpList P ops Q (op :: rest) a w :=
  wpList_wanted hw fun _ hK => wp_load_mid ty x ho b o hx cs d hc hu hd hi (hK _ _ h)
theorem gbuild_run {P : Program} {w : World} {ops : Array Oper} {rest : List Oper} {o : Oper} {a : Act} {Q : Exit → Act → World → Prop} (hw : Region.wanted o (yielded ops a.tmps) = true) (t : TypeId) (parts : Array (Nat × Operand)) (ho : o.op = .build t parts) (vs : Array (Nat × Value)) (hvs : (parts.map fun (i, x) => (i, a.eval x)) = vs) (v : Value) (hrun : (Instr.build t vs).run P w = .ok v w)
    (h : wpList P ops Q rest (a.put o.dst v) w) : wpList P ops Q (o :: rest) a w := by
  subst hvs
  refine wpList_wanted hw fun K hK => ?_
  unfold Oper.wp
  simp only [execOp, ho]
  simp [hrun, Result.andThen]
  exact hK _ _ h
theorem gbinop_run {P : Program} {w : World} {ops : Array Oper} {rest : List Oper} {o : Oper} {a : Act} {Q : Exit → Act → World → Prop} (hw : Region.wanted o (yielded ops a.tmps) = true) (b : BinOp) (t u : TypeId) (x y : Operand) (ho : o.op = .binOp b t x y u) (x' y' v : Value) (hx : a.eval x = x') (hy : a.eval y = y') (hgu : (eqGuard b t x y x' y').run P w = .ok () w) (hrun : (binOp b t x' y').run P w = .ok v w)
    (h : wpList P ops Q rest (a.put o.dst v) w) : wpList P ops Q (o :: rest) a w := by
  refine wpList_wanted hw fun K hK => ?_
  unfold Oper.wp
  simp only [execOp, ho, hx, hy]
  simp [hgu, hrun, Result.andThen]
  exact hK _ _ h
/-- Registers, by where they stand. -/
def rgL (n : Int) : List Value := [.int .u32 0, .int .u32 0, .int .u32 0, .int .u32 0, .int .u32 0, .int .u32 0, .int .u32 0, .int .u32 0, .int .u32 0, .int .u32 0, .int .u32 0, .int .u32 0, .int .u32 0, .int .u32 0, .int .u32 0, .int .u32 0, .int .u32 n, .int .u32 0, .int .u32 0, .bool false, .bool false]
theorem zero25 (w : World) : (zeroValue 25).run Try.prog w = .ok (.agg (rgL 0).toArray) w := by
  have hz : (Try.prog.info? 25).bind (·.zero) = some (.agg (rgL 0).toArray) := by kernel_rfl
  cases hq : Try.prog.info? 25 with
  | none => rw [hq] at hz; cases hz
  | some i =>
    rw [hq] at hz
    have hz2 : i.zero = some (.agg (rgL 0).toArray) := hz
    simp [zeroValue, typeInfo, hq, hz2, go_sem]
theorem build25 (w : World) (n : Int) : (Instr.build 25 #[(1, .int .u32 n)]).run Try.prog w = .ok (.agg (rgL n).toArray) w := by kernel_rfl
theorem size25 : (Try.prog.info? 25).map (·.size) = some 21 := by kernel_rfl
theorem store25 (w : World) (R : Nat) (cur : Array Value) (n : Int) (h : w.heap[R]? = some (.cells cur 25 (0, 0))) (hc : cur.size = 21) : (storeVar 25 ⟨R, 0, none⟩ (.agg (rgL n).toArray)).run Try.prog w = .ok () (w.setRow R (rgL n).toArray) := by
  have := run_storeVar_row (P := Try.prog) w R 0 25 (rgL n).toArray cur 25 h (by rw [hc]; simp [rgL]) (by rw [size25]; rfl) (by simp [rgL, Value.oneCell'])
  rw [this]
  have e : (cur.toList.take 0 ++ (rgL n).toArray.toList ++ cur.toList.drop (0 + (rgL n).toArray.size)).toArray = (rgL n).toArray := by
    rw [List.take_zero, List.nil_append, List.drop_of_length_le (by rw [Array.length_toList, hc]; simp [rgL]), List.append_nil]
  rw [e]
theorem eql25 (w : World) : (binOp BinOp.eql 25 (.agg (rgL 12).toArray) (.agg (rgL 12).toArray)).run Try.prog w = .ok (.bool true) w := by kernel_rfl
theorem guard25 : Try.prog.eqGuardType Try.prog.depth 25 = false := by kernel_rfl
theorem Below.setRow {B : Nat} {w v : World} (h : Below B w v) (R : Nat) (hR : B ≤ R) (cs : Array Value) : Below B w (v.setRow R cs) :=
  h.trans ⟨rfl, rfl, rfl, by simp [World.setRow], fun k hk => setRow_other v R k cs (by omega)⟩
theorem reset_any (w : World) (n : Int) :
    Calls Try.prog 4 #[.int .u32 n] w fun e w' => e = .returned (.agg (rgL n).toArray) ∧ Below w.heap.size w w' := by
  obtain ⟨w1, hw1⟩ : ∃ w1, w1 = w.alloc (.cells (rgL 0).toArray 25) := ⟨_, rfl⟩
  have g1 : w1.heap[w.heap.size]? = some (.cells (rgL 0).toArray 25 (0, 0)) := by rw [hw1]; exact heap_alloc_new w _
  have k1 : Below w.heap.size w w1 := by rw [hw1]; exact Below.alloc (Below.refl _ _) (Nat.le_refl _) _
  have hst := store25 w1 w.heap.size _ n g1 rfl
  have KE : Hid ((w1.setRow w.heap.size (rgL n).toArray).heap[w.heap.size]? = some (.cells (rgL n).toArray 25 (0, 0)) ∧ Below w.heap.size w (w1.setRow w.heap.size (rgL n).toArray) ∧ (rgL n).toArray.size = 21) := ⟨setRow_heap w1 w.heap.size _ _ 25 (0, 0) g1, Below.setRow k1 _ (Nat.le_refl _) _, rfl⟩
  have hz := fun w => zero25 w
  have hbu := fun w => build25 w n
  clear g1 k1
  generalize (rgL n).toArray = D at *
  generalize (rgL 0).toArray = Z at *
  subst hw1
  go_enter Try.func4, Try.ntmps4
  go_wp2_with (first
    | (refine wpList_alloc_zero _ rfl 25 Z rfl (hz _) ?_; simp only [Act.put, List.setIfInBounds_toArray, List.set_cons_zero, List.set_cons_succ])
    | (refine wpList_store_row rfl 25 (.tmp 2) (.tmp 4) rfl w.heap.size 0 D rfl rfl _ hst ?_)
    | (refine wpList_build_run rfl 25 _ rfl #[(1, .int .u32 n)] (by simp [Act.eval]) (.agg D) (hbu _) ?_))
  refine ⟨rfl, .agg D, ?_, rfl, KE.out.2.1⟩
  refine results_cell_row rfl _ _ w.heap.size 25 D (0, 0) _ rfl KE.out.1 Try.underlying25 rfl ?_
  rw [KE.out.2.2]; exact size25
theorem walk (w : World) :
    Calls Try.prog 3 #[] w fun e w' => e = .returned (.bool true) ∧ Below w.heap.size w w' := by
  have hR := reset_any w 12
  have hz := fun w => zero25 w
  have hbu := fun w => build25 w 12
  have hq := fun w => eql25 w
  have hgu := fun w x y => run_eqGuard_agg (P := Try.prog) w .eql 25 x y (rgL 12).toArray (rgL 12).toArray guard25
  have hs1 := fun (w : World) R cur (h : w.heap[R]? = some (.cells cur 25 (0, 0))) (hc : cur.size = 21) => store25 w R cur 12 h hc
  have hZ : (rgL 0).toArray.size = 21 := rfl
  have hl : (Try.prog.info? 25).map (·.size) = some (rgL 12).length := by kernel_rfl
  have u25 := Try.underlying25
  generalize (rgL 0).toArray = Z at *
  generalize (rgL 12) = L at *
  go_enter Try.func3, Try.ntmps3
  go_upto_region 2 with (first
    | (go_at_call 4; refine hR.mono ?_; rintro e w1 ⟨rfl, k1⟩; have hst := hs1 (w1.alloc (.cells Z 25)) w1.heap.size Z (heap_alloc_new w1 _) hZ; have HK : Hid ((((w1.alloc (.cells Z 25)).setRow w1.heap.size L.toArray).heap[w1.heap.size]? = some (.cells L.toArray 25 (0, 0))) ∧ Below w.heap.size w ((w1.alloc (.cells Z 25)).setRow w1.heap.size L.toArray)) := ⟨setRow_heap _ w1.heap.size _ _ 25 (0, 0) (heap_alloc_new w1 _), Below.setRow (Below.alloc k1 k1.size _) _ k1.size _⟩; clear k1)
    | (refine wpList_store_row rfl 25 (.tmp 1) (.tmp 2) rfl w1.heap.size 0 L.toArray rfl rfl _ hst ?_)
    | (refine wpList_alloc_zero _ rfl 25 Z rfl (hz _) ?_; simp only [Act.put, List.setIfInBounds_toArray, List.set_cons_zero, List.set_cons_succ]))
  have hrg : ((w1.alloc (.cells Z 25)).setRow w1.heap.size L.toArray).rangeAt w1.heap.size 0 L := fun j v hv => by
    rw [Nat.zero_add, cell_of_row _ _ _ _ _ _ HK.out.1, List.getElem?_toArray]; exact hv
  obtain ⟨W, hW⟩ : ∃ W, W = (w1.alloc (.cells Z 25)).setRow w1.heap.size L.toArray := ⟨_, rfl⟩
  have HG : Hid (Below w.heap.size w W) := by rw [hW]; exact HK.out.2
  rw [← hW] at hrg ⊢
  clear hW HK hst
  go_wp2_with (first
    | (refine gload_mid (by rfl) 25 (.tmp 1) rfl w1.heap.size 0 rfl L _ hrg u25 rfl hl ?_)
    | (refine gbuild_run (by rfl) 25 _ rfl #[(1, .int .u32 12)] (by simp [Act.eval]) (.agg L.toArray) (hbu _) ?_)
    | (refine gbinop_run (by rfl) .eql 25 25 (.tmp 4) (.tmp 5) rfl (.agg L.toArray) (.agg L.toArray) (.bool true) rfl rfl (hgu _ _ _) (hq _) ?_))
  go_ret
  exact ⟨rfl, HG.out⟩
set_option maxRecDepth 100000 in
theorem lifted (os : Os) (started : os.Started) (H : Type) (enc : TypeId × Value → H) :
    ReturnsInHanded {} Try.checked os 3 .any (Rows.coreNumbersSpec.pre6 enc Try.prog Try.f3 Rows.coreNumbersRow.domain false) (Rows.coreNumbersSpec.post enc Try.prog Try.f3 false true false false) := by
  refine returnsInHanded_of_change (C := Try.checked) own started (by kernel_rfl) Try.func3
    (ChangeSpec.witness6 (enc := enc) (C := Try.checked) false ⟨#[], #[], []⟩ 8 (by kernel_rfl) (by kernel_rfl) (by kernel_rfl) (by kernel_rfl)) ?_
  intro W base args ds gs before hval0 hW hcnd _
  have hval : ∀ (j : Nat) t v, Try.f3.params[j]? = some t → args[j]? = some v → Value.okWide Try.prog W .any base t v := hval0
  have hW' := hW
  obtain ⟨p, q, hA0, hV, rfl, hfz, hnd⟩ := hW
  have hA : DataW.TrodAll enc Try.prog W 0 (fun _ => true) true Try.f3.params.toList args.toList ds p := hA0
  rw [Try.params3] at hA hval
  obtain ⟨rfl, rfl, rfl⟩ := trodAll_none hA
  obtain ⟨rfl, rfl⟩ := trodVars_none hV
  clear hA0 hval0
  simp only [List.append_nil] at hW'
  refine (walk W).mono fun e W' ⟨he, bel⟩ => ?_
  subst he
  exact ⟨_, rfl, _, _, _, [], _, [], hW', trodAll_mk1 (shut_bool Try.underlying4 _), trodAll_mk0, rfl, bel.frame _, fun h => by cases h⟩

theorem over : Rows.coreNumbersRow.holds Try.pinned (OpenSpec.ofChange Rows.coreNumbersSpec) :=
  OpenClaim.holds_of_wide 3 Try.f3 rfl rfl rfl rfl rfl rfl rfl ⟨rfl, rfl, rfl, rfl, rfl⟩ rfl rfl rfl rfl rfl (by kernel_rfl) Try.func3 (by kernel_rfl)
    (of_decide_eq_true (by kernel_rfl)) (by unfold Func.isWrapper; first | (rw [if_pos (by decide +kernel)]; kernel_rfl) | (rw [if_neg (by decide +kernel)]; exact ⟨rfl, rfl⟩))
    (fun os started H enc _ => lifted os started H enc)

theorem numbers_said : Rows.CoreNumbersSaid :=
  over
#print axioms numbers_said
end Go.Proofs.Ytghiffpolacmiaa
