import Derived.Test.YtkndlkcbhpfjoaaEd
namespace Go.Proofs.Ytkndlkcbhpfjoaa
open Go.ChangeShapes Go.WideShapes Go.ChangeAt Go.RowKit Go.Shelf
set_option linter.unusedVariables false
theorem wpList_alloc_zero {P : Program} (w : World) {ops : Array Oper} {rest : List Oper} {o : Oper} {a : Act} {Q : Exit → Act → World → Prop} (hgd : o.guard = none) (t : TypeId) (z : Array Value)
    (ho : o.op = .alloc t) (hz : (zeroValue t).run P w = .ok (.agg z) w)
    (h : wpList P ops Q rest (a.put o.dst (.pointer (some ⟨w.heap.size, 0, none⟩))) (w.alloc (.cells z t))) : wpList P ops Q (o :: rest) a w := by
  refine wpList_plain hgd fun K hK => ?_
  unfold Oper.wp
  simp [execOp, ho, Instr.alloc, hz, newVar, newRow, Value.cells, Result.andThen]
  exact hK _ _ h
section
variable {P : Program}
theorem run_storeVar_row (w : World) (b o : Nat) (ty : TypeId) (cells : Array Value) (cur : Array Value) (T : TypeId) (hb : w.heap[b]? = some (.cells cur T (0, 0))) (hl : o + cells.size ≤ cur.size) (hi : (P.info? ty).map (·.size) = some cells.size) (h1 : ∀ v ∈ cells.toList, v.oneCell' = true) :
    (storeVar ty ⟨b, o, none⟩ (.agg cells)).run P w = .ok () (w.setRow b (cur.toList.take o ++ cells.toList ++ cur.toList.drop (o + cells.size)).toArray) := by
  have := run_storeCells_at P b o T cells.toList 0 cur w hb (by simpa using hl) h1
  cases hq : P.info? ty with
  | none => simp [hq] at hi
  | some i =>
    have hs : cells.size = i.size := by simp [hq] at hi; omega
    simp only [Nat.add_zero, Array.length_toList] at this
    simp [storeVar, sizeOf, typeInfo, hq, Value.cells, hs] at this ⊢
    simp [this]
theorem wpList_store_row {ops : Array Oper} {rest : List Oper} {op : Oper} {a : Act} {w : World} {Q : Exit → Act → World → Prop} (hgd : op.guard = none) (ty : TypeId) (x y : Operand) (ho : op.op = .store ty x y)
    (b o : Nat) (cells : Array Value) (hx : a.eval x = .pointer (some ⟨b, o, none⟩)) (hy : a.eval y = .agg cells) (w' : World)
    (hr : (storeVar ty ⟨b, o, none⟩ (.agg cells)).run P w = .ok () w')
    (h : wpList P ops Q rest (a.put op.dst undef) w') : wpList P ops Q (op :: rest) a w := by
  refine wpList_plain hgd fun K hK => ?_
  unfold Oper.wp execOp
  simp only [ho, hx, hy, Instr.storeAt, Instr.sureAddr, Sem.run_bind, Sem.run_pure, Result.andThen_ok, hr]
  exact hK _ _ h
end
theorem Chg.setRow {a b : World} {S : Nat → Prop} (h : Chg a b S) {g : Nat} (hp : S g ∨ a.heap.size ≤ g) (cs : Array Value) : Chg a (b.setRow g cs) S :=
  h.trans (T := fun k => k = g) ⟨rfl, rfl, rfl, by simp [World.setRow], fun k hk hn => setRow_other b g k cs hn⟩
    (fun i hi x => by subst x; rcases hp with h | h; exact h; omega)
theorem zero38 (w : World) : (zeroValue 38).run Try.prog w = .ok (.agg (gcs GS.zero).toArray) w := by
  have hz : (Try.prog.info? 38).bind (·.zero) = some (.agg (gcs GS.zero).toArray) := by kernel_rfl
  cases hq : Try.prog.info? 38 with
  | none => rw [hq] at hz; cases hz
  | some i =>
    rw [hq] at hz
    have hz2 : i.zero = some (.agg (gcs GS.zero).toArray) := hz
    simp [zeroValue, typeInfo, hq, hz2, go_sem]
/-- A state's cells, of which nothing is known, into a variable of its own. -/
theorem store38 (w : World) (R : Nat) (cur C : Array Value) (T : TypeId) (h : w.heap[R]? = some (.cells cur T (0, 0))) (hc : cur.size = 34) (hC : C.size = 34) (h1 : ∀ v ∈ C.toList, v.oneCell' = true) :
    (storeVar 38 ⟨R, 0, none⟩ (.agg C)).run Try.prog w = .ok () (w.setRow R C) := by
  have hi : (Try.prog.info? 38).map (·.size) = some C.size := by rw [hC]; kernel_rfl
  have := run_storeVar_row (P := Try.prog) w R 0 38 C cur T h (by omega) hi h1
  rw [this]
  congr 2
  rw [List.take_zero, List.nil_append, List.drop_of_length_le (by simp; omega), List.append_nil]
theorem gcs_size (s : GS) : (gcs s).toArray.size = 34 := by simp [gcs_len]
set_option maxHeartbeats 1000000 in
theorem state_any (w : World) (B : Nat) (s : GS) (h : IsG w B s) :
    Calls Try.prog 17 #[.pointer (some ⟨B, 0, none⟩)] w fun e w' => e = .returned (.agg (gcs s).toArray) ∧ Kp w w' := by
  have hz := fun w => zero38 w
  obtain ⟨Z, hZ⟩ : ∃ Z, Z = (gcs GS.zero).toArray := ⟨_, rfl⟩
  obtain ⟨w1, hw1⟩ : ∃ w1, w1 = w.alloc (.cells Z 38) := ⟨_, rfl⟩
  have k1 : Kp w w1 := by rw [hw1]; exact (Chg.refl w _).alloc _
  have g1 : w1.heap[w.heap.size]? = some (.cells Z 38 (0, 0)) := by rw [hw1]; exact heap_alloc_new w _
  have hrg := (h.kp k1).range
  have hst := store38 w1 w.heap.size Z (gcs s).toArray 38 g1 (by rw [hZ]; exact gcs_size _) (gcs_size s) (by simpa using gcs_one s)
  have hsz := size38 s
  rw [← hZ] at hz
  have KE : Hid ((w1.setRow w.heap.size (gcs s).toArray).heap[w.heap.size]? = some (.cells (gcs s).toArray 38 (0, 0)) ∧ Kp w (w1.setRow w.heap.size (gcs s).toArray) ∧ (gcs s).length = 34) := ⟨setRow_heap w1 w.heap.size Z _ 38 (0, 0) g1, Chg.setRow k1 (.inr (Nat.le_refl _)) _, gcs_len s⟩
  clear h hZ g1 k1
  generalize gcs s = L at *
  subst hw1
  go_enter Try.func17, Try.ntmps17
  go_wp2_with (first | (refine wpList_alloc_zero _ rfl 38 Z rfl (hz _) ?_; simp only [Act.put, List.setIfInBounds_toArray, List.set_cons_zero, List.set_cons_succ]) | refine wpList_load_mid rfl 38 (.tmp 5) rfl B 0 rfl L _ hrg Try.underlying38 rfl hsz ?_ | refine wpList_store_row rfl 38 (.tmp 2) (.tmp 6) rfl w.heap.size 0 L.toArray rfl rfl _ hst ?_)
  refine ⟨rfl, .agg L.toArray, ?_, rfl, KE.out.2.1⟩
  refine results_cell_row rfl _ _ w.heap.size 38 L.toArray (0, 0) _ rfl KE.out.1 Try.underlying38 rfl ?_
  rw [List.size_toArray, KE.out.2.2]; kernel_rfl
end Go.Proofs.Ytkndlkcbhpfjoaa
