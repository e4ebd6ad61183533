import Derived.Test.YtghiffpolacmiabDoorUl
import Derived.Test.YtghiffpolacmiabDoorUj
import Derived.Test.YtghiffpolacmiabDoorUn
import Derived.Test.YtghiffpolacmiabDoorUo
namespace Go.Proofs.YtghiffpolacmiabDoor
open Go.ChangeShapes Go.WideShapes Go.ChangeAt Go.RowKit
set_option linter.unusedVariables false

theorem Od.comp {w w1 w2 : World} {B bb : Nat} {x y z : Bd} {s t : St} {v1 : Value} (k1 : Chg w w1 (fun k => k = B ∨ x.own bb k)) (l1 : v1.ownBlock = x.lv.ownBlock ∨ ∃ k, v1.ownBlock = some k ∧ w.heap.size ≤ k) (h2 : Od w1 B bb (y.lvTo v1) t z w2) : Od w B bb x t z w2 := by
  obtain ⟨v2, o2, k2, l2⟩ := h2
  refine ⟨v2, o2, Chg.trans k1 k2 (fun i hi e => ?_), ?_⟩
  · rcases e with e | e | e
    · exact .inl e
    · exact .inr (.inl e)
    · have e' : v1.ownBlock = some i := e
      rcases l1 with l | ⟨k, l, hk⟩
      · exact .inr (.inr (by rw [← l]; exact e'))
      · rw [l] at e'; cases e'; omega
  · rcases l2 with l | ⟨k, l, hk⟩
    · have l' : v2.ownBlock = v1.ownBlock := l
      rw [l']
      exact l1
    · exact .inr ⟨k, l, Nat.le_trans k1.size hk⟩
theorem Od.st {w w1 w2 : World} {B bb : Nat} {x y : Bd} {s t : St} (h1 : Od w B bb x s y w1) (h2 : IsT w2 B t) (k2 : Chg w1 w2 (fun k => k = B)) (hb : t.bus = s.bus) : Od w B bb x t y w2 := by
  obtain ⟨v1, o1, k1, l1⟩ := h1
  exact ⟨v1, o1.st h2 k2 hb, Chg.trans k1 k2 (fun _ _ e => .inl e), l1⟩
theorem Od.of {w w1 w2 : World} {B bb : Nat} {x y : Bd} {t : St} (k : Chg w w1 (fun k => k = B)) (h : Od w1 B bb x t y w2) : Od w B bb x t y w2 := by
  obtain ⟨v2, o2, k2, l2⟩ := h
  refine ⟨v2, o2, Chg.trans (Chg.mono k (fun _ _ e => .inl e)) k2 (fun _ _ e => e), ?_⟩
  rcases l2 with l | ⟨j, l, hk⟩
  · exact .inl l
  · exact .inr ⟨j, l, Nat.le_trans k.size hk⟩
/-- The table of what is done. -/
def dTab : List Nat := [0, 31, 32, 33, 34, 35, 36, 37, 38, 39, 40, 41, 42, 43, 31, 36, 37, 38, 39, 40, 41, 42, 43, 44, 45, 46, 47, 48, 49, 50, 51, 52, 53, 54, 55, 56, 57, 58, 59, 60, 61, 62, 63, 64, 65, 66, 67, 68, 69]
def dV : Array Value := (Value.nilFunc :: (dTab.drop 1).map (fun f => Value.func (.func f) #[] #[])).toArray
theorem zero74 (w : World) : (zeroValue 77).run Tryd.prog w = .ok (.agg (Array.replicate 49 Value.nilFunc)) w := by
  have hz : (Tryd.prog.info? 77).bind (·.zero) = some (.agg (Array.replicate 49 Value.nilFunc)) := by kernel_rfl
  cases hq : Tryd.prog.info? 77 with
  | none => rw [hq] at hz; cases hz
  | some i =>
    rw [hq] at hz
    have hz2 : i.zero = some (.agg (Array.replicate 49 Value.nilFunc)) := hz
    simp [zeroValue, typeInfo, hq, hz2, go_sem]
theorem ix74_1 (w : World) : (Instr.index 77 (.agg dV) (.int .i64 1)).run Tryd.prog w = .ok (.func (.func 31) #[] #[]) w := by kernel_rfl
theorem ix74_2 (w : World) : (Instr.index 77 (.agg dV) (.int .i64 2)).run Tryd.prog w = .ok (.func (.func 32) #[] #[]) w := by kernel_rfl
theorem ix74_3 (w : World) : (Instr.index 77 (.agg dV) (.int .i64 3)).run Tryd.prog w = .ok (.func (.func 33) #[] #[]) w := by kernel_rfl
theorem ix74_4 (w : World) : (Instr.index 77 (.agg dV) (.int .i64 4)).run Tryd.prog w = .ok (.func (.func 34) #[] #[]) w := by kernel_rfl
theorem ix74_5 (w : World) : (Instr.index 77 (.agg dV) (.int .i64 5)).run Tryd.prog w = .ok (.func (.func 35) #[] #[]) w := by kernel_rfl
theorem ix74_6 (w : World) : (Instr.index 77 (.agg dV) (.int .i64 6)).run Tryd.prog w = .ok (.func (.func 36) #[] #[]) w := by kernel_rfl
theorem ix74_7 (w : World) : (Instr.index 77 (.agg dV) (.int .i64 7)).run Tryd.prog w = .ok (.func (.func 37) #[] #[]) w := by kernel_rfl
theorem ix74_8 (w : World) : (Instr.index 77 (.agg dV) (.int .i64 8)).run Tryd.prog w = .ok (.func (.func 38) #[] #[]) w := by kernel_rfl
theorem ix74_9 (w : World) : (Instr.index 77 (.agg dV) (.int .i64 9)).run Tryd.prog w = .ok (.func (.func 39) #[] #[]) w := by kernel_rfl
theorem ix74_10 (w : World) : (Instr.index 77 (.agg dV) (.int .i64 10)).run Tryd.prog w = .ok (.func (.func 40) #[] #[]) w := by kernel_rfl
theorem ix74_11 (w : World) : (Instr.index 77 (.agg dV) (.int .i64 11)).run Tryd.prog w = .ok (.func (.func 41) #[] #[]) w := by kernel_rfl
theorem ix74_12 (w : World) : (Instr.index 77 (.agg dV) (.int .i64 12)).run Tryd.prog w = .ok (.func (.func 42) #[] #[]) w := by kernel_rfl
theorem ix74_13 (w : World) : (Instr.index 77 (.agg dV) (.int .i64 13)).run Tryd.prog w = .ok (.func (.func 43) #[] #[]) w := by kernel_rfl
theorem ix74_14 (w : World) : (Instr.index 77 (.agg dV) (.int .i64 14)).run Tryd.prog w = .ok (.func (.func 31) #[] #[]) w := by kernel_rfl
theorem ix74_15 (w : World) : (Instr.index 77 (.agg dV) (.int .i64 15)).run Tryd.prog w = .ok (.func (.func 36) #[] #[]) w := by kernel_rfl
theorem ix74_16 (w : World) : (Instr.index 77 (.agg dV) (.int .i64 16)).run Tryd.prog w = .ok (.func (.func 37) #[] #[]) w := by kernel_rfl
theorem ix74_17 (w : World) : (Instr.index 77 (.agg dV) (.int .i64 17)).run Tryd.prog w = .ok (.func (.func 38) #[] #[]) w := by kernel_rfl
theorem ix74_18 (w : World) : (Instr.index 77 (.agg dV) (.int .i64 18)).run Tryd.prog w = .ok (.func (.func 39) #[] #[]) w := by kernel_rfl
theorem ix74_19 (w : World) : (Instr.index 77 (.agg dV) (.int .i64 19)).run Tryd.prog w = .ok (.func (.func 40) #[] #[]) w := by kernel_rfl
theorem ix74_20 (w : World) : (Instr.index 77 (.agg dV) (.int .i64 20)).run Tryd.prog w = .ok (.func (.func 41) #[] #[]) w := by kernel_rfl
theorem ix74_21 (w : World) : (Instr.index 77 (.agg dV) (.int .i64 21)).run Tryd.prog w = .ok (.func (.func 42) #[] #[]) w := by kernel_rfl
theorem ix74_22 (w : World) : (Instr.index 77 (.agg dV) (.int .i64 22)).run Tryd.prog w = .ok (.func (.func 43) #[] #[]) w := by kernel_rfl
theorem ix74_23 (w : World) : (Instr.index 77 (.agg dV) (.int .i64 23)).run Tryd.prog w = .ok (.func (.func 44) #[] #[]) w := by kernel_rfl
theorem ix74_24 (w : World) : (Instr.index 77 (.agg dV) (.int .i64 24)).run Tryd.prog w = .ok (.func (.func 45) #[] #[]) w := by kernel_rfl
theorem ix74_25 (w : World) : (Instr.index 77 (.agg dV) (.int .i64 25)).run Tryd.prog w = .ok (.func (.func 46) #[] #[]) w := by kernel_rfl
theorem ix74_26 (w : World) : (Instr.index 77 (.agg dV) (.int .i64 26)).run Tryd.prog w = .ok (.func (.func 47) #[] #[]) w := by kernel_rfl
theorem ix74_27 (w : World) : (Instr.index 77 (.agg dV) (.int .i64 27)).run Tryd.prog w = .ok (.func (.func 48) #[] #[]) w := by kernel_rfl
theorem ix74_28 (w : World) : (Instr.index 77 (.agg dV) (.int .i64 28)).run Tryd.prog w = .ok (.func (.func 49) #[] #[]) w := by kernel_rfl
theorem ix74_29 (w : World) : (Instr.index 77 (.agg dV) (.int .i64 29)).run Tryd.prog w = .ok (.func (.func 50) #[] #[]) w := by kernel_rfl
theorem ix74_30 (w : World) : (Instr.index 77 (.agg dV) (.int .i64 30)).run Tryd.prog w = .ok (.func (.func 51) #[] #[]) w := by kernel_rfl
theorem ix74_31 (w : World) : (Instr.index 77 (.agg dV) (.int .i64 31)).run Tryd.prog w = .ok (.func (.func 52) #[] #[]) w := by kernel_rfl
theorem ix74_32 (w : World) : (Instr.index 77 (.agg dV) (.int .i64 32)).run Tryd.prog w = .ok (.func (.func 53) #[] #[]) w := by kernel_rfl
theorem ix74_33 (w : World) : (Instr.index 77 (.agg dV) (.int .i64 33)).run Tryd.prog w = .ok (.func (.func 54) #[] #[]) w := by kernel_rfl
theorem ix74_34 (w : World) : (Instr.index 77 (.agg dV) (.int .i64 34)).run Tryd.prog w = .ok (.func (.func 55) #[] #[]) w := by kernel_rfl
theorem ix74_35 (w : World) : (Instr.index 77 (.agg dV) (.int .i64 35)).run Tryd.prog w = .ok (.func (.func 56) #[] #[]) w := by kernel_rfl
theorem ix74_36 (w : World) : (Instr.index 77 (.agg dV) (.int .i64 36)).run Tryd.prog w = .ok (.func (.func 57) #[] #[]) w := by kernel_rfl
theorem ix74_37 (w : World) : (Instr.index 77 (.agg dV) (.int .i64 37)).run Tryd.prog w = .ok (.func (.func 58) #[] #[]) w := by kernel_rfl
theorem ix74_38 (w : World) : (Instr.index 77 (.agg dV) (.int .i64 38)).run Tryd.prog w = .ok (.func (.func 59) #[] #[]) w := by kernel_rfl
theorem ix74_39 (w : World) : (Instr.index 77 (.agg dV) (.int .i64 39)).run Tryd.prog w = .ok (.func (.func 60) #[] #[]) w := by kernel_rfl
theorem ix74_40 (w : World) : (Instr.index 77 (.agg dV) (.int .i64 40)).run Tryd.prog w = .ok (.func (.func 61) #[] #[]) w := by kernel_rfl
theorem ix74_41 (w : World) : (Instr.index 77 (.agg dV) (.int .i64 41)).run Tryd.prog w = .ok (.func (.func 62) #[] #[]) w := by kernel_rfl
theorem ix74_42 (w : World) : (Instr.index 77 (.agg dV) (.int .i64 42)).run Tryd.prog w = .ok (.func (.func 63) #[] #[]) w := by kernel_rfl
theorem ix74_43 (w : World) : (Instr.index 77 (.agg dV) (.int .i64 43)).run Tryd.prog w = .ok (.func (.func 64) #[] #[]) w := by kernel_rfl
theorem ix74_44 (w : World) : (Instr.index 77 (.agg dV) (.int .i64 44)).run Tryd.prog w = .ok (.func (.func 65) #[] #[]) w := by kernel_rfl
theorem ix74_45 (w : World) : (Instr.index 77 (.agg dV) (.int .i64 45)).run Tryd.prog w = .ok (.func (.func 66) #[] #[]) w := by kernel_rfl
theorem ix74_46 (w : World) : (Instr.index 77 (.agg dV) (.int .i64 46)).run Tryd.prog w = .ok (.func (.func 67) #[] #[]) w := by kernel_rfl
theorem ix74_47 (w : World) : (Instr.index 77 (.agg dV) (.int .i64 47)).run Tryd.prog w = .ok (.func (.func 68) #[] #[]) w := by kernel_rfl
theorem ix74_48 (w : World) : (Instr.index 77 (.agg dV) (.int .i64 48)).run Tryd.prog w = .ok (.func (.func 69) #[] #[]) w := by kernel_rfl
theorem ix74 (w : World) (op : Int) (h : isO op = true) : (Instr.index 77 (.agg dV) (.int .i64 op)).run Tryd.prog w = .ok (.func (.func (dTab.getD op.toNat 0)) #[] #[]) w := by
  have h1 := (isO_iff op).1 h
  obtain ⟨n, rfl⟩ : ∃ n : Nat, op = n := ⟨op.toNat, by omega⟩
  have hn : n = 1 ∨ n = 2 ∨ n = 3 ∨ n = 4 ∨ n = 5 ∨ n = 6 ∨ n = 7 ∨ n = 8 ∨ n = 9 ∨ n = 10 ∨ n = 11 ∨ n = 12 ∨ n = 13 ∨ n = 14 ∨ n = 15 ∨ n = 16 ∨ n = 17 ∨ n = 18 ∨ n = 19 ∨ n = 20 ∨ n = 21 ∨ n = 22 ∨ n = 23 ∨ n = 24 ∨ n = 25 ∨ n = 26 ∨ n = 27 ∨ n = 28 ∨ n = 29 ∨ n = 30 ∨ n = 31 ∨ n = 32 ∨ n = 33 ∨ n = 34 ∨ n = 35 ∨ n = 36 ∨ n = 37 ∨ n = 38 ∨ n = 39 ∨ n = 40 ∨ n = 41 ∨ n = 42 ∨ n = 43 ∨ n = 44 ∨ n = 45 ∨ n = 46 ∨ n = 47 ∨ n = 48 := by omega
  rcases hn with rfl | rfl | rfl | rfl | rfl | rfl | rfl | rfl | rfl | rfl | rfl | rfl | rfl | rfl | rfl | rfl | rfl | rfl | rfl | rfl | rfl | rfl | rfl | rfl | rfl | rfl | rfl | rfl | rfl | rfl | rfl | rfl | rfl | rfl | rfl | rfl | rfl | rfl | rfl | rfl | rfl | rfl | rfl | rfl | rfl | rfl | rfl | rfl
  · exact ix74_1 w
  · exact ix74_2 w
  · exact ix74_3 w
  · exact ix74_4 w
  · exact ix74_5 w
  · exact ix74_6 w
  · exact ix74_7 w
  · exact ix74_8 w
  · exact ix74_9 w
  · exact ix74_10 w
  · exact ix74_11 w
  · exact ix74_12 w
  · exact ix74_13 w
  · exact ix74_14 w
  · exact ix74_15 w
  · exact ix74_16 w
  · exact ix74_17 w
  · exact ix74_18 w
  · exact ix74_19 w
  · exact ix74_20 w
  · exact ix74_21 w
  · exact ix74_22 w
  · exact ix74_23 w
  · exact ix74_24 w
  · exact ix74_25 w
  · exact ix74_26 w
  · exact ix74_27 w
  · exact ix74_28 w
  · exact ix74_29 w
  · exact ix74_30 w
  · exact ix74_31 w
  · exact ix74_32 w
  · exact ix74_33 w
  · exact ix74_34 w
  · exact ix74_35 w
  · exact ix74_36 w
  · exact ix74_37 w
  · exact ix74_38 w
  · exact ix74_39 w
  · exact ix74_40 w
  · exact ix74_41 w
  · exact ix74_42 w
  · exact ix74_43 w
  · exact ix74_44 w
  · exact ix74_45 w
  · exact ix74_46 w
  · exact ix74_47 w
  · exact ix74_48 w
def dParts : Array (Nat × Operand) := #[(1, Operand.func 31), (2, Operand.func 32), (3, Operand.func 33), (4, Operand.func 34), (5, Operand.func 35), (6, Operand.func 36), (7, Operand.func 37), (8, Operand.func 38), (9, Operand.func 39), (10, Operand.func 40), (11, Operand.func 41), (12, Operand.func 42), (13, Operand.func 43), (14, Operand.func 31), (15, Operand.func 36), (16, Operand.func 37), (17, Operand.func 38), (18, Operand.func 39), (19, Operand.func 40), (20, Operand.func 41), (21, Operand.func 42), (22, Operand.func 43), (23, Operand.func 44), (24, Operand.func 45), (25, Operand.func 46), (26, Operand.func 47), (27, Operand.func 48), (28, Operand.func 49), (29, Operand.func 50), (30, Operand.func 51), (31, Operand.func 52), (32, Operand.func 53), (33, Operand.func 54), (34, Operand.func 55), (35, Operand.func 56), (36, Operand.func 57), (37, Operand.func 58), (38, Operand.func 59), (39, Operand.func 60), (40, Operand.func 61), (41, Operand.func 62), (42, Operand.func 63), (43, Operand.func 64), (44, Operand.func 65), (45, Operand.func 66), (46, Operand.func 67), (47, Operand.func 68), (48, Operand.func 69)]
theorem build74 (a : Act) (w : World) : (Instr.build 77 (dParts.map fun (i, x) => (i, a.eval x))).run Tryd.prog w = .ok (.agg dV) w := by kernel_rfl
theorem dV_size : dV.size = 49 := rfl
set_option maxRecDepth 100000 in
theorem store74 (w : World) (R : Nat) (cur : Array Value) (T : TypeId) (h : w.heap[R]? = some (.cells cur T (0, 0))) (hc : cur.size = 49) : (storeVar 77 ⟨R, 0, none⟩ (.agg dV)).run Tryd.prog w = .ok () (w.setRow R dV) := by
  have hi : (Tryd.prog.info? 77).map (·.size) = some dV.size := by kernel_rfl
  have := run_storeVar_row (P := Tryd.prog) w R 0 77 dV cur T h (by rw [dV_size]; omega) hi (by
    intro v hv
    unfold dV at hv
    simp only [List.mem_cons, List.mem_map] at hv
    rcases hv with rfl | ⟨f, _, rfl⟩ <;> rfl)
  rw [this]
  congr 2
  rw [List.take_zero, List.nil_append, List.drop_of_length_le (by rw [dV_size, Array.length_toList]; omega), List.append_nil]
end Go.Proofs.YtghiffpolacmiabDoor
