import Derived.Test.YtakddfhcafpceaaOwn
import Derived.Laws.StructEq
import Derived.Laws.ResultCell
import Derived.Deep.MidRow
import Derived.Deep.RegionHeld3
import Derived.Deep.Cut
namespace Go.Proofs.Ytakddfhcafpceaa
open Go.ChangeShapes Go.WideShapes Go.ChangeAt Go.RowKit
set_option linter.unusedVariables false

/-- Nothing that was there has changed. -/
abbrev Kp (w w' : World) : Prop := Chg w w' (fun _ => False)
theorem Kp.trans {a b c : World} (h : Kp a b) (k : Kp b c) : Kp a c := Chg.trans h k (fun _ _ x => x)
theorem lt_of_cell {w : World} {b o : Nat} {v : Value} (hc : w.cell? ⟨b, o, none⟩ = some v) : b < w.heap.size := by
  rcases Nat.lt_or_ge b w.heap.size with h | h
  · exact h
  · exfalso
    have : w.heap[b]? = none := Array.getElem?_eq_none h
    simp [World.cell?, this] at hc
theorem Chg.cell' {w w' : World} {S : Nat → Prop} (h : Chg w w' S) {b o : Nat} {v : Value} (hn : ¬ S b) (hc : w.cell? ⟨b, o, none⟩ = some v) : w'.cell? ⟨b, o, none⟩ = some v := by
  rw [Chg.cell h (lt_of_cell hc) hn]; exact hc
theorem Kp.cell {w w' : World} (h : Kp w w') {b o : Nat} {v : Value} (hc : w.cell? ⟨b, o, none⟩ = some v) : w'.cell? ⟨b, o, none⟩ = some v := Chg.cell' h (fun x => x) hc
theorem Kp.heap {w w' : World} (h : Kp w w') {k : Nat} {o : Obj} (hk : w.heap[k]? = some o) : w'.heap[k]? = some o := Chg.heap h hk (fun x => x)
theorem Kp.refl (w : World) : Kp w w := Chg.refl w _
theorem Kp.drew (w : World) : Kp w w.drew := Chg.drew (Chg.refl w _)
theorem Kp.drewN (w : World) (n : Nat) : Kp w (w.drewN n) := Chg.drewN (Chg.refl w _) n
theorem Kp.al (w : World) (o : Obj) : Kp w (w.alloc o) := Chg.alloc (Chg.refl w _) o
theorem Kp.any {w w' : World} {S : Nat → Prop} (h : Kp w w') : Chg w w' S := Chg.mono h (fun _ _ x => x.elim)
theorem cells_at {w : World} {B : Nat} {cs : Array Value} {e : TypeId} (h : w.heap[B]? = some (.cells cs e (0, 0))) (i : Nat) : w.cell? ⟨B, i, none⟩ = cs[i]? ∧ w.frozen? ⟨B, i, none⟩ = false :=
  ⟨cell_of_row w B i cs e (0, 0) h, frozen_of_row w B i cs e h⟩
theorem al_old {w : World} (o : Obj) {k : Nat} {x : Obj} (h : w.heap[k]? = some x) : (w.alloc o).heap[k]? = some x := ((Chg.refl w (fun _ => False)).alloc o).heap h (fun h => h)
theorem hp_lt {w : World} {k : Nat} {o : Obj} (h : w.heap[k]? = some o) : k < w.heap.size := (Array.getElem?_eq_some_iff.1 h).1
theorem Chg.setRow {a b : World} {S : Nat → Prop} (h : Chg a b S) {g : Nat} (hp : S g ∨ a.heap.size ≤ g) (cs : Array Value) : Chg a (b.setRow g cs) S :=
  h.trans (T := fun k => k = g) ⟨rfl, rfl, rfl, by simp [World.setRow], fun k hk hn => setRow_other b g k cs hn⟩
    (fun i hi x => by subst x; rcases hp with h | h; exact h; omega)
/-- The walk at a build, told by its run. -/
theorem wpList_build_run {P : Program} {w : World} {ops : Array Oper} {rest : List Oper} {o : Oper} {a : Act} {Q : Exit → Act → World → Prop} (hgd : o.guard = none) (t : TypeId) (parts : Array (Nat × Operand)) (ho : o.op = .build t parts) (vs : Array (Nat × Value)) (hvs : (parts.map fun (i, x) => (i, a.eval x)) = vs) (v : Value) (hrun : (Instr.build t vs).run P w = .ok v w)
    (h : wpList P ops Q rest (a.put o.dst v) w) : wpList P ops Q (o :: rest) a w := by
  subst hvs
  refine wpList_plain hgd fun K hK => ?_
  unfold Oper.wp
  simp only [execOp, ho]
  simp [hrun, Result.andThen]
  exact hK _ _ h
/-- The walk at a box of a great value. -/
theorem wpList_box_run {P : Program} {w : World} {ops : Array Oper} {rest : List Oper} {o : Oper} {a : Act} {Q : Exit → Act → World → Prop} (hgd : o.guard = none) (t : TypeId) (x : Operand) (ho : o.op = .box t x) (Z : Array Value) (hx : a.eval x = .agg Z)
    (h : wpList P ops Q rest (a.put o.dst (.pointer (some ⟨w.heap.size, 0, none⟩))) (w.alloc (.cells Z t))) : wpList P ops Q (o :: rest) a w := by
  refine wpList_plain hgd fun K hK => ?_
  unfold Oper.wp
  simp [execOp, ho, Instr.box, hx, newVar, newRow, Value.cells, Result.andThen]
  exact hK _ _ h
theorem wpList_alloc_zero {P : Program} (w : World) {ops : Array Oper} {rest : List Oper} {o : Oper} {a : Act} {Q : Exit → Act → World → Prop} (hgd : o.guard = none) (t : TypeId) (z : Array Value)
    (ho : o.op = .alloc t) (hz : (zeroValue t).run P w = .ok (.agg z) w)
    (h : wpList P ops Q rest (a.put o.dst (.pointer (some ⟨w.heap.size, 0, none⟩))) (w.alloc (.cells z t))) : wpList P ops Q (o :: rest) a w := by
  refine wpList_plain hgd fun K hK => ?_
  unfold Oper.wp
  simp [execOp, ho, Instr.alloc, hz, newVar, newRow, Value.cells, Result.andThen]
  exact hK _ _ h
section
variable {P : Program}
theorem run_storeVar_row (w : World) (b o : Nat) (ty : TypeId) (cells : Array Value) (cur : Array Value) (T : TypeId) (hb : w.heap[b]? = some (.cells cur T (0, 0))) (hl : o + cells.size ≤ cur.size) (hi : (P.info? ty).map (·.size) = some cells.size) (h1 : ∀ v ∈ cells.toList, v.oneCell' = true) :
    (storeVar ty ⟨b, o, none⟩ (.agg cells)).run P w = .ok () (w.setRow b (cur.toList.take o ++ cells.toList ++ cur.toList.drop (o + cells.size)).toArray) := by
  have := run_storeCells_at P b o T cells.toList 0 cur w hb (by simpa using hl) h1
  cases hq : P.info? ty with
  | none => simp [hq] at hi
  | some i =>
    have hs : cells.size = i.size := by simp [hq] at hi; omega
    simp only [Nat.add_zero, Array.length_toList] at this
    simp [storeVar, sizeOf, typeInfo, hq, Value.cells, hs] at this ⊢
    simp [this]
theorem wpList_store_row {ops : Array Oper} {rest : List Oper} {op : Oper} {a : Act} {w : World} {Q : Exit → Act → World → Prop} (hgd : op.guard = none) (ty : TypeId) (x y : Operand) (ho : op.op = .store ty x y)
    (b o : Nat) (cells : Array Value) (hx : a.eval x = .pointer (some ⟨b, o, none⟩)) (hy : a.eval y = .agg cells) (w' : World)
    (hr : (storeVar ty ⟨b, o, none⟩ (.agg cells)).run P w = .ok () w')
    (h : wpList P ops Q rest (a.put op.dst undef) w') : wpList P ops Q (op :: rest) a w := by
  refine wpList_plain hgd fun K hK => ?_
  unfold Oper.wp execOp
  simp only [ho, hx, hy, Instr.storeAt, Instr.sureAddr, Sem.run_bind, Sem.run_pure, Result.andThen_ok, hr]
  exact hK _ _ h
end
theorem w64 {x : Int} (h0 : -9223372036854775808 ≤ x) (h1 : x ≤ 9223372036854775807) : IntKind.i64.wrap x = x := by simp [IntKind.wrap, IntKind.bits, IntKind.signed]; omega
/-- The number in a slot. -/
def nI : Value → Nat
  | .int _ q => q.toNat
  | _ => 0
/-- The block that a list lies in. -/
def blk : Value → Option Nat
  | .slice (some a) _ _ => some a.block
  | _ => none
theorem own_tp {w : World} {e size n : Nat} {v : Value} {xs : List Value} (h : w.ownsRow 0 e size v n xs) {k : Nat} (hk : v.ownBlock = some k) : ∃ cur, w.heap[k]? = some (.cells cur e (0, 0)) := by
  rcases h.2 with ⟨e, _⟩ | ⟨g, cap, cur, e, _, hg, _⟩
  · rw [e] at hk; cases hk
  · rw [e] at hk; cases hk; exact ⟨cur, hg⟩
/-- New, if there is one. -/
def Nw (w : World) (v : Value) : Prop := ∀ k, v.ownBlock = some k → w.heap.size ≤ k
end Go.Proofs.Ytakddfhcafpceaa
