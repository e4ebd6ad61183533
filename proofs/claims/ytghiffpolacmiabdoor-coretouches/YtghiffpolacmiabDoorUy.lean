import Derived.Test.YtghiffpolacmiabDoorUx
import Derived.Laws.StructEq
import Derived.ChangeKeysEq
namespace Go.Proofs.YtghiffpolacmiabDoor
open Go.ChangeShapes Go.WideShapes Go.ChangeAt Go.RowKit
set_option linter.unusedVariables false

theorem IsRg.cell {w : World} {B : Nat} {g : Rg} (h : IsRg w B g) (i : Nat) (v : Value) (hv : (rgc g)[i]? = some v) : w.cell? ⟨B, i, none⟩ = some v := by
  rw [(cells_at h i).1, List.getElem?_toArray, hv]
theorem IsRg.fr {w : World} {B : Nat} {g : Rg} (h : IsRg w B g) (i : Nat) : w.frozen? ⟨B, i, none⟩ = false := (cells_at h i).2
theorem IsRg.chg {S : Nat → Prop} {w w' : World} {B : Nat} {s : Rg} (h : IsRg w B s) (hc : Chg w w' S) (hn : ¬ S B) : IsRg w' B s := hc.heap h hn
theorem IsRg.kp {w w' : World} {B : Nat} {s : Rg} (h : IsRg w B s) (hc : Kp w w') : IsRg w' B s := hc.heap h
theorem IsRg.set {w : World} {B : Nat} {s : Rg} (h : IsRg w B s) (i : Nat) (v : Value) (t : Rg) (ht : (rgc s).set i v = rgc t) : IsRg (w.setCell ⟨B, i, none⟩ v) B t ∧ Chg w (w.setCell ⟨B, i, none⟩ v) (fun k => k = B) := by
  have := heap_setCell_same w B i _ 25 v h
  refine ⟨?_, Chg.setCell (S := fun k => k = B) (Chg.refl w _) (.inl rfl) v⟩
  unfold IsRg
  rw [this, ← ht]
  congr 2
  simp
theorem IsRg.range {w : World} {B : Nat} {g : Rg} (h : IsRg w B g) : w.rangeAt B 0 (rgc g) := rangeOf h _ (fun j v hv => by rw [Nat.zero_add, List.getElem?_toArray]; exact hv)
theorem fault_kind (s : St) (f a : Int) : (s.fault f a).r.kind = 3 := rfl
/-- An instruction's result is none of an interrupt's. -/
theorem doS_kind (n : Nat) (t : St) (y : Bd) (h : t.r.kind = 1) : (doS n t y).r.kind ≠ 6 := by
  have hs : ∀ v, (t.setD v).r.kind ≠ 6 := fun v => by rw [(setD_g t v).2.2.2.1, h]; decide
  have hg : ∀ q, (t.goIf q).r.kind ≠ 6 := fun q => by cases q <;> (show t.r.kind ≠ 6; rw [h]; decide)
  have h6 : t.r.kind ≠ 6 := by rw [h]; decide
  unfold doS
  split
  all_goals first
    | exact hs _
    | exact hg _
    | (unfold lodS; split; · rw [(setD_g _ _).2.2.2.1]; exact h6
       · show (3 : Int) ≠ 6; decide)
    | (unfold stoS; split; · exact h6
       · show (3 : Int) ≠ 6; decide)
    | (rw [show ∀ (a : St) b, (a.to b).r = a.r from fun _ _ => rfl, (setD_g _ _).2.2.2.1]; exact h6)
    | (rw [(setD_g _ _).2.2.2.1]; exact h6)
    | (show (2 : Int) ≠ 6; decide)
    | (show (5 : Int) ≠ 6; decide)
    | (show (4 : Int) ≠ 6; decide)
    | (split; · exact h6
       · show (3 : Int) ≠ 6; decide)
    | exact h6
theorem pcTo_r (s : St) : s.pcTo.r = s.r := rfl
theorem ins_kind1 (s : St) (x : Bd) (v n : Nat) (y : Bd) : (doS n ((s.c0 x).ins v) y).pcTo.r.kind ≠ 6 := by
  rw [pcTo_r]
  have hk : ((s.c0 x).ins v).r.kind = 1 := rfl
  generalize (s.c0 x).ins v = t at *
  exact doS_kind n t y hk
theorem insS_kind (s : St) (x : Bd) : (insS s x).r.kind ≠ 6 := by
  unfold insS
  generalize (nxt x.ws x.iw).toNat = v
  have h1 := ins_kind1 s x v (dO v).toNat (x.fet s.g.pc)
  generalize doS (dO v).toNat ((s.c0 x).ins v) (x.fet s.g.pc) = t9 at *
  split
  · show (3 : Int) ≠ 6; decide
  · split
    · show (3 : Int) ≠ 6; decide
    · exact h1
theorem doB_ln (n : Nat) (t : St) (y : Bd) : (doB n t y).ln = y.ln ∧ (doB n t y).od = y.od := by
  unfold doB
  split <;> exact ⟨rfl, rfl⟩
theorem insB_ln (s : St) (x : Bd) : (insB s x).ln = x.ln ∧ (insB s x).od = x.od := by
  unfold insB
  split
  · exact ⟨rfl, rfl⟩
  · split
    · exact ⟨rfl, rfl⟩
    · exact doB_ln _ _ _
theorem info22 : ∃ i, Tryd.prog.info? 22 = some i := by
  cases h : Tryd.prog.info? 22 with
  | some i => exact ⟨i, rfl⟩
  | none => have : (Tryd.prog.info? 22).isSome = true := by kernel_rfl
            rw [h] at this; cases this
theorem c22 : Tryd.prog.cellsOf 22 = 1 := by kernel_rfl
theorem plain22 : Tryd.prog.plainKey 22 = true := by kernel_rfl
theorem eqItemsI (w : World) (d : Nat) (xs : Array Value) (x : Nat → Int) : ∀ l : List Nat, (∀ i ∈ l, xs[i]? = some (.int .u32 (x i))) → (Op.eqItems (d + 1) 22 1 xs xs l).run Tryd.prog w = .ok true w
  | [], _ => by simp [Op.eqItems]
  | i :: l, h => by
    have ih := eqItemsI w d xs x l (fun j hj => h j (List.mem_cons_of_mem _ hj))
    have h1 := h i (List.mem_cons_self ..)
    have p1 := run_part_plain (P := Tryd.prog) w plain22 (xs := xs) (off := i) h1
    have p3 := run_equalIn_int (P := Tryd.prog) w d 22 .u32 .u32 (x i) (x i) Tryd.underlying22
    simp only [Op.eqItems, Nat.mul_one, Sem.run_bind, p1, p3, Result.andThen_ok]
    simp [ih]
theorem fields25 : Tryd.prog.underlying 25 = some (.struct (Tryd.prog.fieldsOf 25)) := by simp [Program.fieldsOf, Tryd.underlying25]
theorem stood25 : Tryd.prog.stoodInHeld 25 = false := by kernel_rfl
theorem eqi25 (g : Rg) (w : World) : (Op.equalIn 10000 25 (.agg (rgc g).toArray) (.agg (rgc g).toArray)).run Tryd.prog w = .ok true w := by
  rw [run_equalIn_agg w 9999 25 _ _ fields25 stood25]
  obtain ⟨i3, hi3⟩ := info22
  have hR : (Op.equalIn 9999 23 (Value.agg (List.take 16 (rgc g)).toArray) (Value.agg (List.take 16 (rgc g)).toArray)).run Tryd.prog w = .ok true w := by
    rw [run_equalIn_array w 9998 _ _ Tryd.underlying23 hi3, c22]
    refine eqItemsI w 9997 _ (fun i => g.R i) _ (fun i hi => ?_)
    have hi : i < 16 := by simpa using hi
    rw [List.getElem?_toArray, List.getElem?_take, rgc_R g i hi]; simp [hi]
  have hR2 : (Op.equalIn 9999 23 (Value.agg #[.int .u32 (g.R 0), .int .u32 (g.R 1), .int .u32 (g.R 2), .int .u32 (g.R 3), .int .u32 (g.R 4), .int .u32 (g.R 5), .int .u32 (g.R 6), .int .u32 (g.R 7), .int .u32 (g.R 8), .int .u32 (g.R 9), .int .u32 (g.R 10), .int .u32 (g.R 11), .int .u32 (g.R 12), .int .u32 (g.R 13), .int .u32 (g.R 14), .int .u32 (g.R 15)]) (Value.agg #[.int .u32 (g.R 0), .int .u32 (g.R 1), .int .u32 (g.R 2), .int .u32 (g.R 3), .int .u32 (g.R 4), .int .u32 (g.R 5), .int .u32 (g.R 6), .int .u32 (g.R 7), .int .u32 (g.R 8), .int .u32 (g.R 9), .int .u32 (g.R 10), .int .u32 (g.R 11), .int .u32 (g.R 12), .int .u32 (g.R 13), .int .u32 (g.R 14), .int .u32 (g.R 15)])).run Tryd.prog w = .ok true w := hR
  simp [Program.fieldsOf, Tryd.underlying25, go_sem, hR2, rgc]
theorem eql25 (g : Rg) (w : World) : (binOp BinOp.eql 25 (.agg (rgc g).toArray) (.agg (rgc g).toArray)).run Tryd.prog w = .ok (.bool true) w := by
  rw [run_eql_struct, eqi25]; rfl
theorem neq25 (g : Rg) (w : World) : (binOp BinOp.neq 25 (.agg (rgc g).toArray) (.agg (rgc g).toArray)).run Tryd.prog w = .ok (.bool false) w := by
  rw [run_neq_struct, eqi25]; rfl
theorem guard25 : Tryd.prog.eqGuardType Tryd.prog.depth 25 = false := by kernel_rfl
theorem eqg25 (w : World) (b : BinOp) (x y : Operand) (A C : Array Value) : (eqGuard b 25 x y (.agg A) (.agg C)).run Tryd.prog w = .ok () w := run_eqGuard_agg w b 25 x y A C guard25
theorem wpList_wanted {P : Program} {ops : Array Oper} {Q : Exit → Act → World → Prop} {a : Act} {w : World} {rest : List Oper} {o : Oper} (hw : Region.wanted o (yielded ops a.tmps) = true)
    (h : ∀ K : Act → World → Prop, (∀ a w, wpList P ops Q rest a w → K a w) → o.wp P a w K Q) : wpList P ops Q (o :: rest) a w :=
  wpList_step fun K hK => by rw [if_pos hw]; exact h K hK
theorem gload_mid {P : Program} {ops : Array Oper} {rest : List Oper} {op : Oper} {a : Act} {w : World} {Q : Exit → Act → World → Prop} (hw : Region.wanted op (yielded ops a.tmps) = true) (ty : TypeId) (x : Operand) (ho : op.op = .load ty x)
    (b o : Nat) (hx : a.eval x = .pointer (some ⟨b, o, none⟩)) (cs : List Value) (d : TypeDesc) (hc : w.rangeAt b o cs)
    (hu : P.underlying ty = some d) (hd : d.isRow = true) (hi : (P.info? ty).map (·.size) = some cs.length)
    (h : wpList P ops Q rest (a.put op.dst (.agg cs.toArray)) w) : wpList P ops Q (op :: rest) a w :=
  wpList_wanted hw fun _ hK => wp_load_mid ty x ho b o hx cs d hc hu hd hi (hK _ _ h)
theorem gbinop_run {P : Program} {w : World} {ops : Array Oper} {rest : List Oper} {o : Oper} {a : Act} {Q : Exit → Act → World → Prop} (hw : Region.wanted o (yielded ops a.tmps) = true) (b : BinOp) (t u : TypeId) (x y : Operand) (ho : o.op = .binOp b t x y u) (x' y' v : Value) (hx : a.eval x = x') (hy : a.eval y = y') (hgu : (eqGuard b t x y x' y').run P w = .ok () w) (hrun : (binOp b t x' y').run P w = .ok v w)
    (h : wpList P ops Q rest (a.put o.dst v) w) : wpList P ops Q (o :: rest) a w := by
  refine wpList_wanted hw fun K hK => ?_
  unfold Oper.wp
  simp only [execOp, ho, hx, hy]
  simp [hgu, hrun, Result.andThen]
  exact hK _ _ h
end Go.Proofs.YtghiffpolacmiabDoor
