import Derived.Test.YtghiffpolacmiabGreatDoorUl
import Derived.Test.YtghiffpolacmiabGreatDoorUj
import Derived.Test.YtghiffpolacmiabGreatDoorUn
import Derived.Test.YtghiffpolacmiabGreatDoorUo
import Derived.Deep.RegionHeld3
import Derived.Shelf.Abstract
namespace Go.Proofs.YtghiffpolacmiabGreatDoor
open Go.ChangeShapes Go.WideShapes Go.ChangeAt Go.RowKit
set_option linter.unusedVariables false

theorem Od.comp {w w1 w2 : World} {B bb : Nat} {x y z : Bd} {s t : St} {v1 : Value} (k1 : Chg w w1 (fun k => k = B ∨ x.own bb k)) (l1 : v1.ownBlock = x.lv.ownBlock ∨ ∃ k, v1.ownBlock = some k ∧ w.heap.size ≤ k) (h2 : Od w1 B bb (y.lvTo v1) t z w2) : Od w B bb x t z w2 := by
  obtain ⟨v2, o2, k2, l2⟩ := h2
  refine ⟨v2, o2, Chg.trans k1 k2 (fun i hi e => ?_), ?_⟩
  · rcases e with e | e | e
    · exact .inl e
    · exact .inr (.inl e)
    · have e' : v1.ownBlock = some i := e
      rcases l1 with l | ⟨k, l, hk⟩
      · exact .inr (.inr (by rw [← l]; exact e'))
      · rw [l] at e'; cases e'; omega
  · rcases l2 with l | ⟨k, l, hk⟩
    · have l' : v2.ownBlock = v1.ownBlock := l
      rw [l']
      exact l1
    · exact .inr ⟨k, l, Nat.le_trans k1.size hk⟩
theorem Od.st {w w1 w2 : World} {B bb : Nat} {x y : Bd} {s t : St} (h1 : Od w B bb x s y w1) (h2 : IsT w2 B t) (k2 : Chg w1 w2 (fun k => k = B)) (hb : t.bus = s.bus) : Od w B bb x t y w2 := by
  obtain ⟨v1, o1, k1, l1⟩ := h1
  exact ⟨v1, o1.st h2 k2 hb, Chg.trans k1 k2 (fun _ _ e => .inl e), l1⟩
theorem Od.of {w w1 w2 : World} {B bb : Nat} {x y : Bd} {t : St} (k : Chg w w1 (fun k => k = B)) (h : Od w1 B bb x t y w2) : Od w B bb x t y w2 := by
  obtain ⟨v2, o2, k2, l2⟩ := h
  refine ⟨v2, o2, Chg.trans (Chg.mono k (fun _ _ e => .inl e)) k2 (fun _ _ e => e), ?_⟩
  rcases l2 with l | ⟨j, l, hk⟩
  · exact .inl l
  · exact .inr ⟨j, l, Nat.le_trans k.size hk⟩
/-- The table of what is done. -/
def dTab : List Nat := [0, 36, 37, 38, 39, 40, 41, 42, 43, 44, 45, 46, 47, 48, 36, 41, 42, 43, 44, 45, 46, 47, 48, 49, 50, 51, 52, 53, 54, 55, 56, 57, 58, 59, 60, 61, 62, 63, 64, 65, 66, 67, 68, 69, 70, 71, 72, 73, 74]
def dV : Array Value := (Value.nilFunc :: (dTab.drop 1).map (fun f => Value.func (.func f) #[] #[])).toArray
theorem zero74 (w : World) : (zeroValue 74).run Tryz.prog w = .ok (.agg (Array.replicate 49 Value.nilFunc)) w := by
  have hz : (Tryz.prog.info? 74).bind (·.zero) = some (.agg (Array.replicate 49 Value.nilFunc)) := by kernel_rfl
  cases hq : Tryz.prog.info? 74 with
  | none => rw [hq] at hz; cases hz
  | some i =>
    rw [hq] at hz
    have hz2 : i.zero = some (.agg (Array.replicate 49 Value.nilFunc)) := hz
    simp [zeroValue, typeInfo, hq, hz2, go_sem]
theorem ix74_1 (w : World) : (Instr.index 74 (.agg dV) (.int .i64 1)).run Tryz.prog w = .ok (.func (.func 36) #[] #[]) w := by kernel_rfl
theorem ix74_2 (w : World) : (Instr.index 74 (.agg dV) (.int .i64 2)).run Tryz.prog w = .ok (.func (.func 37) #[] #[]) w := by kernel_rfl
theorem ix74_3 (w : World) : (Instr.index 74 (.agg dV) (.int .i64 3)).run Tryz.prog w = .ok (.func (.func 38) #[] #[]) w := by kernel_rfl
theorem ix74_4 (w : World) : (Instr.index 74 (.agg dV) (.int .i64 4)).run Tryz.prog w = .ok (.func (.func 39) #[] #[]) w := by kernel_rfl
theorem ix74_5 (w : World) : (Instr.index 74 (.agg dV) (.int .i64 5)).run Tryz.prog w = .ok (.func (.func 40) #[] #[]) w := by kernel_rfl
theorem ix74_6 (w : World) : (Instr.index 74 (.agg dV) (.int .i64 6)).run Tryz.prog w = .ok (.func (.func 41) #[] #[]) w := by kernel_rfl
theorem ix74_7 (w : World) : (Instr.index 74 (.agg dV) (.int .i64 7)).run Tryz.prog w = .ok (.func (.func 42) #[] #[]) w := by kernel_rfl
theorem ix74_8 (w : World) : (Instr.index 74 (.agg dV) (.int .i64 8)).run Tryz.prog w = .ok (.func (.func 43) #[] #[]) w := by kernel_rfl
theorem ix74_9 (w : World) : (Instr.index 74 (.agg dV) (.int .i64 9)).run Tryz.prog w = .ok (.func (.func 44) #[] #[]) w := by kernel_rfl
theorem ix74_10 (w : World) : (Instr.index 74 (.agg dV) (.int .i64 10)).run Tryz.prog w = .ok (.func (.func 45) #[] #[]) w := by kernel_rfl
theorem ix74_11 (w : World) : (Instr.index 74 (.agg dV) (.int .i64 11)).run Tryz.prog w = .ok (.func (.func 46) #[] #[]) w := by kernel_rfl
theorem ix74_12 (w : World) : (Instr.index 74 (.agg dV) (.int .i64 12)).run Tryz.prog w = .ok (.func (.func 47) #[] #[]) w := by kernel_rfl
theorem ix74_13 (w : World) : (Instr.index 74 (.agg dV) (.int .i64 13)).run Tryz.prog w = .ok (.func (.func 48) #[] #[]) w := by kernel_rfl
theorem ix74_14 (w : World) : (Instr.index 74 (.agg dV) (.int .i64 14)).run Tryz.prog w = .ok (.func (.func 36) #[] #[]) w := by kernel_rfl
theorem ix74_15 (w : World) : (Instr.index 74 (.agg dV) (.int .i64 15)).run Tryz.prog w = .ok (.func (.func 41) #[] #[]) w := by kernel_rfl
theorem ix74_16 (w : World) : (Instr.index 74 (.agg dV) (.int .i64 16)).run Tryz.prog w = .ok (.func (.func 42) #[] #[]) w := by kernel_rfl
theorem ix74_17 (w : World) : (Instr.index 74 (.agg dV) (.int .i64 17)).run Tryz.prog w = .ok (.func (.func 43) #[] #[]) w := by kernel_rfl
theorem ix74_18 (w : World) : (Instr.index 74 (.agg dV) (.int .i64 18)).run Tryz.prog w = .ok (.func (.func 44) #[] #[]) w := by kernel_rfl
theorem ix74_19 (w : World) : (Instr.index 74 (.agg dV) (.int .i64 19)).run Tryz.prog w = .ok (.func (.func 45) #[] #[]) w := by kernel_rfl
theorem ix74_20 (w : World) : (Instr.index 74 (.agg dV) (.int .i64 20)).run Tryz.prog w = .ok (.func (.func 46) #[] #[]) w := by kernel_rfl
theorem ix74_21 (w : World) : (Instr.index 74 (.agg dV) (.int .i64 21)).run Tryz.prog w = .ok (.func (.func 47) #[] #[]) w := by kernel_rfl
theorem ix74_22 (w : World) : (Instr.index 74 (.agg dV) (.int .i64 22)).run Tryz.prog w = .ok (.func (.func 48) #[] #[]) w := by kernel_rfl
theorem ix74_23 (w : World) : (Instr.index 74 (.agg dV) (.int .i64 23)).run Tryz.prog w = .ok (.func (.func 49) #[] #[]) w := by kernel_rfl
theorem ix74_24 (w : World) : (Instr.index 74 (.agg dV) (.int .i64 24)).run Tryz.prog w = .ok (.func (.func 50) #[] #[]) w := by kernel_rfl
theorem ix74_25 (w : World) : (Instr.index 74 (.agg dV) (.int .i64 25)).run Tryz.prog w = .ok (.func (.func 51) #[] #[]) w := by kernel_rfl
theorem ix74_26 (w : World) : (Instr.index 74 (.agg dV) (.int .i64 26)).run Tryz.prog w = .ok (.func (.func 52) #[] #[]) w := by kernel_rfl
theorem ix74_27 (w : World) : (Instr.index 74 (.agg dV) (.int .i64 27)).run Tryz.prog w = .ok (.func (.func 53) #[] #[]) w := by kernel_rfl
theorem ix74_28 (w : World) : (Instr.index 74 (.agg dV) (.int .i64 28)).run Tryz.prog w = .ok (.func (.func 54) #[] #[]) w := by kernel_rfl
theorem ix74_29 (w : World) : (Instr.index 74 (.agg dV) (.int .i64 29)).run Tryz.prog w = .ok (.func (.func 55) #[] #[]) w := by kernel_rfl
theorem ix74_30 (w : World) : (Instr.index 74 (.agg dV) (.int .i64 30)).run Tryz.prog w = .ok (.func (.func 56) #[] #[]) w := by kernel_rfl
theorem ix74_31 (w : World) : (Instr.index 74 (.agg dV) (.int .i64 31)).run Tryz.prog w = .ok (.func (.func 57) #[] #[]) w := by kernel_rfl
theorem ix74_32 (w : World) : (Instr.index 74 (.agg dV) (.int .i64 32)).run Tryz.prog w = .ok (.func (.func 58) #[] #[]) w := by kernel_rfl
theorem ix74_33 (w : World) : (Instr.index 74 (.agg dV) (.int .i64 33)).run Tryz.prog w = .ok (.func (.func 59) #[] #[]) w := by kernel_rfl
theorem ix74_34 (w : World) : (Instr.index 74 (.agg dV) (.int .i64 34)).run Tryz.prog w = .ok (.func (.func 60) #[] #[]) w := by kernel_rfl
theorem ix74_35 (w : World) : (Instr.index 74 (.agg dV) (.int .i64 35)).run Tryz.prog w = .ok (.func (.func 61) #[] #[]) w := by kernel_rfl
theorem ix74_36 (w : World) : (Instr.index 74 (.agg dV) (.int .i64 36)).run Tryz.prog w = .ok (.func (.func 62) #[] #[]) w := by kernel_rfl
theorem ix74_37 (w : World) : (Instr.index 74 (.agg dV) (.int .i64 37)).run Tryz.prog w = .ok (.func (.func 63) #[] #[]) w := by kernel_rfl
theorem ix74_38 (w : World) : (Instr.index 74 (.agg dV) (.int .i64 38)).run Tryz.prog w = .ok (.func (.func 64) #[] #[]) w := by kernel_rfl
theorem ix74_39 (w : World) : (Instr.index 74 (.agg dV) (.int .i64 39)).run Tryz.prog w = .ok (.func (.func 65) #[] #[]) w := by kernel_rfl
theorem ix74_40 (w : World) : (Instr.index 74 (.agg dV) (.int .i64 40)).run Tryz.prog w = .ok (.func (.func 66) #[] #[]) w := by kernel_rfl
theorem ix74_41 (w : World) : (Instr.index 74 (.agg dV) (.int .i64 41)).run Tryz.prog w = .ok (.func (.func 67) #[] #[]) w := by kernel_rfl
theorem ix74_42 (w : World) : (Instr.index 74 (.agg dV) (.int .i64 42)).run Tryz.prog w = .ok (.func (.func 68) #[] #[]) w := by kernel_rfl
theorem ix74_43 (w : World) : (Instr.index 74 (.agg dV) (.int .i64 43)).run Tryz.prog w = .ok (.func (.func 69) #[] #[]) w := by kernel_rfl
theorem ix74_44 (w : World) : (Instr.index 74 (.agg dV) (.int .i64 44)).run Tryz.prog w = .ok (.func (.func 70) #[] #[]) w := by kernel_rfl
theorem ix74_45 (w : World) : (Instr.index 74 (.agg dV) (.int .i64 45)).run Tryz.prog w = .ok (.func (.func 71) #[] #[]) w := by kernel_rfl
theorem ix74_46 (w : World) : (Instr.index 74 (.agg dV) (.int .i64 46)).run Tryz.prog w = .ok (.func (.func 72) #[] #[]) w := by kernel_rfl
theorem ix74_47 (w : World) : (Instr.index 74 (.agg dV) (.int .i64 47)).run Tryz.prog w = .ok (.func (.func 73) #[] #[]) w := by kernel_rfl
theorem ix74_48 (w : World) : (Instr.index 74 (.agg dV) (.int .i64 48)).run Tryz.prog w = .ok (.func (.func 74) #[] #[]) w := by kernel_rfl
theorem ix74 (w : World) (op : Int) (h : isO op = true) : (Instr.index 74 (.agg dV) (.int .i64 op)).run Tryz.prog w = .ok (.func (.func (dTab.getD op.toNat 0)) #[] #[]) w := by
  have h1 := (isO_iff op).1 h
  obtain ⟨n, rfl⟩ : ∃ n : Nat, op = n := ⟨op.toNat, by omega⟩
  have hn : n = 1 ∨ n = 2 ∨ n = 3 ∨ n = 4 ∨ n = 5 ∨ n = 6 ∨ n = 7 ∨ n = 8 ∨ n = 9 ∨ n = 10 ∨ n = 11 ∨ n = 12 ∨ n = 13 ∨ n = 14 ∨ n = 15 ∨ n = 16 ∨ n = 17 ∨ n = 18 ∨ n = 19 ∨ n = 20 ∨ n = 21 ∨ n = 22 ∨ n = 23 ∨ n = 24 ∨ n = 25 ∨ n = 26 ∨ n = 27 ∨ n = 28 ∨ n = 29 ∨ n = 30 ∨ n = 31 ∨ n = 32 ∨ n = 33 ∨ n = 34 ∨ n = 35 ∨ n = 36 ∨ n = 37 ∨ n = 38 ∨ n = 39 ∨ n = 40 ∨ n = 41 ∨ n = 42 ∨ n = 43 ∨ n = 44 ∨ n = 45 ∨ n = 46 ∨ n = 47 ∨ n = 48 := by omega
  rcases hn with rfl | rfl | rfl | rfl | rfl | rfl | rfl | rfl | rfl | rfl | rfl | rfl | rfl | rfl | rfl | rfl | rfl | rfl | rfl | rfl | rfl | rfl | rfl | rfl | rfl | rfl | rfl | rfl | rfl | rfl | rfl | rfl | rfl | rfl | rfl | rfl | rfl | rfl | rfl | rfl | rfl | rfl | rfl | rfl | rfl | rfl | rfl | rfl
  · exact ix74_1 w
  · exact ix74_2 w
  · exact ix74_3 w
  · exact ix74_4 w
  · exact ix74_5 w
  · exact ix74_6 w
  · exact ix74_7 w
  · exact ix74_8 w
  · exact ix74_9 w
  · exact ix74_10 w
  · exact ix74_11 w
  · exact ix74_12 w
  · exact ix74_13 w
  · exact ix74_14 w
  · exact ix74_15 w
  · exact ix74_16 w
  · exact ix74_17 w
  · exact ix74_18 w
  · exact ix74_19 w
  · exact ix74_20 w
  · exact ix74_21 w
  · exact ix74_22 w
  · exact ix74_23 w
  · exact ix74_24 w
  · exact ix74_25 w
  · exact ix74_26 w
  · exact ix74_27 w
  · exact ix74_28 w
  · exact ix74_29 w
  · exact ix74_30 w
  · exact ix74_31 w
  · exact ix74_32 w
  · exact ix74_33 w
  · exact ix74_34 w
  · exact ix74_35 w
  · exact ix74_36 w
  · exact ix74_37 w
  · exact ix74_38 w
  · exact ix74_39 w
  · exact ix74_40 w
  · exact ix74_41 w
  · exact ix74_42 w
  · exact ix74_43 w
  · exact ix74_44 w
  · exact ix74_45 w
  · exact ix74_46 w
  · exact ix74_47 w
  · exact ix74_48 w
def dParts : Array (Nat × Operand) := #[(1, Operand.func 36), (2, Operand.func 37), (3, Operand.func 38), (4, Operand.func 39), (5, Operand.func 40), (6, Operand.func 41), (7, Operand.func 42), (8, Operand.func 43), (9, Operand.func 44), (10, Operand.func 45), (11, Operand.func 46), (12, Operand.func 47), (13, Operand.func 48), (14, Operand.func 36), (15, Operand.func 41), (16, Operand.func 42), (17, Operand.func 43), (18, Operand.func 44), (19, Operand.func 45), (20, Operand.func 46), (21, Operand.func 47), (22, Operand.func 48), (23, Operand.func 49), (24, Operand.func 50), (25, Operand.func 51), (26, Operand.func 52), (27, Operand.func 53), (28, Operand.func 54), (29, Operand.func 55), (30, Operand.func 56), (31, Operand.func 57), (32, Operand.func 58), (33, Operand.func 59), (34, Operand.func 60), (35, Operand.func 61), (36, Operand.func 62), (37, Operand.func 63), (38, Operand.func 64), (39, Operand.func 65), (40, Operand.func 66), (41, Operand.func 67), (42, Operand.func 68), (43, Operand.func 69), (44, Operand.func 70), (45, Operand.func 71), (46, Operand.func 72), (47, Operand.func 73), (48, Operand.func 74)]
theorem build74 (a : Act) (w : World) : (Instr.build 74 (dParts.map fun (i, x) => (i, a.eval x))).run Tryz.prog w = .ok (.agg dV) w := by kernel_rfl
theorem dV_size : dV.size = 49 := rfl
set_option maxRecDepth 100000 in
theorem store74 (w : World) (R : Nat) (cur : Array Value) (T : TypeId) (h : w.heap[R]? = some (.cells cur T (0, 0))) (hc : cur.size = 49) : (storeVar 74 ⟨R, 0, none⟩ (.agg dV)).run Tryz.prog w = .ok () (w.setRow R dV) := by
  have hi : (Tryz.prog.info? 74).map (·.size) = some dV.size := by kernel_rfl
  have := run_storeVar_row (P := Tryz.prog) w R 0 74 dV cur T h (by rw [dV_size]; omega) hi (by
    intro v hv
    unfold dV at hv
    simp only [List.mem_cons, List.mem_map] at hv
    rcases hv with rfl | ⟨f, _, rfl⟩ <;> rfl)
  rw [this]
  congr 2
  rw [List.take_zero, List.nil_append, List.drop_of_length_le (by rw [dV_size, Array.length_toList]; omega), List.append_nil]
end Go.Proofs.YtghiffpolacmiabGreatDoor
namespace Go.Proofs.YtghiffpolacmiabGreatDoor
open Go.ChangeShapes Go.WideShapes Go.ChangeAt Go.RowKit
set_option linter.unusedVariables false

def St.s0 (s : St) : St := { s with nx := (s.g.pc + 4) % 4294967296, r := { s.r with kind := 1 } }
def St.pcTo (s : St) : St := { s with g := { s.g with pc := s.nx } }
theorem IsT.s0 {w : World} {B : Nat} {s : St} (h : IsT w B s) : IsT ((w.setCell ⟨B, 27, none⟩ (.int .u32 ((s.g.pc + 4) % 4294967296))).setCell ⟨B, 28, none⟩ (.int .i64 1)) B s.s0 ∧ Chg w ((w.setCell ⟨B, 27, none⟩ (.int .u32 ((s.g.pc + 4) % 4294967296))).setCell ⟨B, 28, none⟩ (.int .i64 1)) (fun k => k = B) := by
  obtain ⟨i1, k1⟩ := h.set 27 (.int .u32 ((s.g.pc + 4) % 4294967296)) { s with nx := (s.g.pc + 4) % 4294967296 } rfl
  obtain ⟨i2, k2⟩ := i1.set 28 (.int .i64 1) s.s0 rfl
  exact ⟨i2, Chg.trans k1 k2 (fun _ _ e => e)⟩
set_option maxRecDepth 100000 in
set_option maxHeartbeats 4000000 in
theorem ins_no (w : World) (B bb : Nat) (s t : St) (x y : Bd) (h : On w B bb s x) (hF : ∀ W, On W B bb s.s0 x → Calls Tryz.prog 23 #[.pointer (some ⟨B, 0, none⟩)] W fun e w' => e = .returned (.bool false) ∧ Od W B bb x t y w') :
    Calls Tryz.prog 12 #[.pointer (some ⟨B, 0, none⟩)] w fun e w' => e = .returned (.tuple #[]) ∧ Od w B bb x t.pcTo y w' := by
  have c16 := h.t.cell 16 (.int .u32 s.g.pc) rfl
  have c27 := h.t.cell 27 _ rfl
  have f27 := h.t.fr 27
  have c28 := h.t.cell 28 _ rfl
  have f28 := h.t.fr 28
  obtain ⟨i0, k0⟩ := h.t.s0
  have hF0 := hF _ (h.st i0 k0 rfl)
  have HK : Hid (Chg w _ (fun k => k = B)) := k0
  have hs := fun w (h : IsT w B t) => h.set 16 (.int .u32 t.nx) t.pcTo rfl
  have g27 := fun w (h : IsT w B t) => h.cell 27 (.int .u32 t.nx) rfl
  clear hF i0 k0 h
  generalize s.g.pc = pc at *
  generalize t.nx = nx at *
  go_enter Tryz.func12, Tryz.ntmps12
  go_wp2_with (go_at_call 23; refine hF0.mono ?_; rintro e w1 ⟨rfl, v1, o1, k1, l1⟩; have a1 := g27 _ o1.t; have f1 := o1.t.fr 16; have d1 := o1.t.cell 16 _ rfl; have HS : Hid (IsT _ B _ ∧ Chg w1 _ (fun k => k = B)) := hs _ o1.t)
  go_end0
  exact ⟨rfl, Od.of HK.out (Od.st ⟨v1, o1, k1, l1⟩ HS.out.1 HS.out.2 rfl)⟩
end Go.Proofs.YtghiffpolacmiabGreatDoor
namespace Go.Proofs.YtghiffpolacmiabGreatDoor
open Go.ChangeShapes Go.WideShapes Go.ChangeAt Go.RowKit
set_option linter.unusedVariables false

set_option maxHeartbeats 8000000 in
set_option maxRecDepth 100000 in
theorem deeds_any (w : World) : Calls Tryz.prog 24 #[] w fun e w' => e = .returned (.agg dV) ∧ Kp w w' := by
  have hz := fun w => zero74 w
  have hbu := fun a w => build74 a w
  obtain ⟨w1, hw1⟩ : ∃ w1, w1 = w.alloc (.cells (Array.replicate 49 Value.nilFunc) 74) := ⟨_, rfl⟩
  have k1 : Kp w w1 := by rw [hw1]; exact (Chg.refl w _).alloc _
  have g1 : w1.heap[w.heap.size]? = some (.cells (Array.replicate 49 Value.nilFunc) 74 (0, 0)) := by rw [hw1]; exact heap_alloc_new w _
  have hst := store74 w1 w.heap.size _ 74 g1 (by simp)
  have KE : Hid ((w1.setRow w.heap.size dV).heap[w.heap.size]? = some (.cells dV 74 (0, 0)) ∧ Kp w (w1.setRow w.heap.size dV) ∧ dV.size = 49) := ⟨setRow_heap w1 w.heap.size _ _ 74 (0, 0) g1, Chg.setRow k1 (.inr (Nat.le_refl _)) _, dV_size⟩
  clear g1 k1
  generalize dV = D at *
  generalize Array.replicate 49 Value.nilFunc = Z at *
  subst hw1
  go_enter Tryz.func24, Tryz.ntmps24
  go_upto_region 1 with (first
    | (refine wpList_alloc_zero _ rfl 74 Z rfl (hz _) ?_; simp only [Act.put, List.setIfInBounds_toArray, List.set_cons_zero]))
  go_wp2_with (first
    | (refine wpList_store_row rfl 74 (.tmp 0) (.tmp 1) rfl w.heap.size 0 D rfl rfl _ hst ?_)
    | (refine wpList_build_run rfl 74 dParts (by kernel_rfl) _ rfl (.agg D) (hbu _ _) ?_))
  refine ⟨rfl, .agg D, ?_, rfl, KE.out.2.1⟩
  refine results_cell_row rfl _ _ w.heap.size 74 D (0, 0) _ rfl KE.out.1 Tryz.underlying74 rfl ?_
  rw [KE.out.2.2]; kernel_rfl
end Go.Proofs.YtghiffpolacmiabGreatDoor
namespace Go.Proofs.YtghiffpolacmiabGreatDoor
open Go.ChangeShapes Go.WideShapes Go.ChangeAt Go.RowKit
set_option linter.unusedVariables false

def ops17_3 : Array Oper := #[{ dst := some 17, op := Op.call { callee := Callee.value (Operand.func 24), args := #[], argTypes := #[] }, type := 74, pos := "step.go:46", after := #[], guard := none },
  { dst := some 18, op := Op.move (Operand.tmp 0), type := 72, pos := "step.go:46", after := #[], guard := none },
  { dst := some 19, op := Op.nilCheck (Operand.tmp 18), type := 0, pos := "step.go:46", after := #[{ on := 1, ground := Ground.data }], guard := none },
  { dst := some 20, op := Op.fieldAddr 54 (Operand.tmp 19) 2, type := 0, pos := "step.go:46", after := #[{ on := 2, ground := Ground.data }], guard := none },
  { dst := some 21, op := Op.fieldAddr 52 (Operand.tmp 20) 0, type := 0, pos := "step.go:46", after := #[{ on := 3, ground := Ground.data }], guard := none },
  { dst := some 22, op := Op.load 50 (Operand.tmp 21), type := 50, pos := "step.go:46", after := #[{ on := 4, ground := Ground.data }], guard := none },
  { dst := some 23, op := Op.index 74 (Operand.tmp 17) (Operand.tmp 22), type := 73, pos := "step.go:46", after := #[{ on := 0, ground := Ground.data }, { on := 5, ground := Ground.data }], guard := none },
  { dst := some 24, op := Op.move (Operand.tmp 0), type := 72, pos := "step.go:46", after := #[], guard := none },
  { dst := some 25, op := Op.call { callee := Callee.value (Operand.tmp 23), args := #[Operand.tmp 24], argTypes := #[72] }, type := 0, pos := "step.go:46", after := #[{ on := 6, ground := Ground.data }, { on := 7, ground := Ground.data }, { on := 0, ground := Ground.chain }], guard := none }]
set_option maxHeartbeats 4000000 in
set_option maxRecDepth 100000 in
theorem reg17_3 (W : World) (B F : Nat) (op : Int) (D : Array Value) (hop : W.cell? ⟨B, 22, none⟩ = some (.int .i64 op))
    (hDe : ∀ w, Calls Tryz.prog 24 #[] w fun e w' => e = .returned (.agg D) ∧ Kp w w') (hix : ∀ w, (Instr.index 74 (.agg D) (.int .i64 op)).run Tryz.prog w = .ok (.func (.func F) #[] #[]) w) (hent : ∀ args w, (callFunc F args).run Tryz.prog w = .ok (.enter F args) w)
    (R : World → World → Prop) (hd : ∀ V, Kp W V → Calls Tryz.prog F #[.pointer (some ⟨B, 0, none⟩)] V fun e w' => e = .returned (.tuple #[]) ∧ R V w') (hR : ∀ V w', Kp W V → R V w' → w'.cell? ⟨B, 22, none⟩ = some (.int .i64 op))
    (Q : Exit → Act → World → Prop) (hPan : ∀ c (a : Act) w (d : Option Tmp) v, Q (.panic c) (a.put d v) w → Q (.panic c) a w) {u1 u2 u3 u4 u5 u6 u7 u8 u9 u10 u11 u12 u13 u14 u15 u16 u17 u18 u19 u20 u21 u22 u23 u24 u25 u26 u27 u28 u29 u30 u31 u32 u33 : Value}
    (hQ : ∀ V w', Kp W V → R V w' → Q .normal ⟨#[.pointer (some ⟨B, 0, none⟩), u1, u2, u3, u4, u5, u6, u7, u8, u9, u10, u11, u12, u13, u14, u15, u16, .agg D, .pointer (some ⟨B, 0, none⟩), .pointer (some ⟨B, 0, none⟩), .pointer (some ⟨B, 22, none⟩), .pointer (some ⟨B, 22, none⟩), .int .i64 op, .func (.func F) #[] #[], .pointer (some ⟨B, 0, none⟩), .tuple #[], u26, u27, u28, u29, u30, u31, u32, u33], []⟩ w') :
    Code.wp Tryz.prog (Code.region 3 ops17_3 true) Q ⟨#[.pointer (some ⟨B, 0, none⟩), u1, u2, u3, u4, u5, u6, u7, u8, u9, u10, u11, u12, u13, u14, u15, u16, u17, u18, u19, u20, u21, u22, u23, u24, u25, u26, u27, u28, u29, u30, u31, u32, u33], []⟩ W := by
  have HSK : ∀ V, Kp W V → (fun w' => w'.cell? ⟨B, 22, none⟩ = some (.int .i64 op)) V := fun V k => Kp.cell k hop
  have k0 : Kp W W.drew := (Chg.refl _ _).drew
  refine wp_region_held_drew (S := fun w' => w'.cell? ⟨B, 22, none⟩ = some (.int .i64 op)) hmx (HSK _ k0) (fun HSX => ?_)
  obtain ⟨W0, hW0⟩ : ∃ W0, W0 = W.drew := ⟨_, rfl⟩
  rw [← hW0] at HSX k0 ⊢
  clear hW0
  refine wpAnyH_take (i := 1) (oi := { dst := some 18, op := Op.move (Operand.tmp 0), type := 72, pos := "step.go:46", after := #[], guard := none }) (v := .pointer (some ⟨B, 0, none⟩)) rfl (by kernel_rfl) (by kernel_rfl) (by kernel_rfl) (fun _ _ _ h => hPan _ _ _ _ _ h) (Or.inl ⟨by rfl, ?_⟩) HSX ?_
  · intro wx d0
    go_simp
  simp only [Act.put, List.setIfInBounds_toArray, List.set_cons_zero, List.set_cons_succ]
  refine wpAnyH_take (i := 2) (oi := { dst := some 19, op := Op.nilCheck (Operand.tmp 18), type := 0, pos := "step.go:46", after := #[{ on := 1, ground := Ground.data }], guard := none }) (v := .pointer (some ⟨B, 0, none⟩)) rfl (by kernel_rfl) (by kernel_rfl) (by kernel_rfl) (fun _ _ _ h => hPan _ _ _ _ _ h) (Or.inl ⟨by rfl, ?_⟩) HSX ?_
  · intro wx d0
    go_simp
  simp only [Act.put, List.setIfInBounds_toArray, List.set_cons_zero, List.set_cons_succ]
  refine wpAnyH_take (i := 3) (oi := { dst := some 20, op := Op.fieldAddr 54 (Operand.tmp 19) 2, type := 0, pos := "step.go:46", after := #[{ on := 2, ground := Ground.data }], guard := none }) (v := .pointer (some ⟨B, 22, none⟩)) rfl (by kernel_rfl) (by kernel_rfl) (by kernel_rfl) (fun _ _ _ h => hPan _ _ _ _ _ h) (Or.inl ⟨by rfl, ?_⟩) HSX ?_
  · intro wx d0
    go_simp
  simp only [Act.put, List.setIfInBounds_toArray, List.set_cons_zero, List.set_cons_succ]
  refine wpAnyH_take (i := 4) (oi := { dst := some 21, op := Op.fieldAddr 52 (Operand.tmp 20) 0, type := 0, pos := "step.go:46", after := #[{ on := 3, ground := Ground.data }], guard := none }) (v := .pointer (some ⟨B, 22, none⟩)) rfl (by kernel_rfl) (by kernel_rfl) (by kernel_rfl) (fun _ _ _ h => hPan _ _ _ _ _ h) (Or.inl ⟨by rfl, ?_⟩) HSX ?_
  · intro wx d0
    go_simp
  simp only [Act.put, List.setIfInBounds_toArray, List.set_cons_zero, List.set_cons_succ]
  refine wpAnyH_take (i := 5) (oi := { dst := some 22, op := Op.load 50 (Operand.tmp 21), type := 50, pos := "step.go:46", after := #[{ on := 4, ground := Ground.data }], guard := none }) (v := .int .i64 op) rfl (by kernel_rfl) (by kernel_rfl) (by kernel_rfl) (fun _ _ _ h => hPan _ _ _ _ _ h) (Or.inl ⟨by rfl, ?_⟩) HSX ?_
  · intro wx d0
    go_simp
  simp only [Act.put, List.setIfInBounds_toArray, List.set_cons_zero, List.set_cons_succ]
  refine wpAnyH_take (i := 7) (oi := { dst := some 24, op := Op.move (Operand.tmp 0), type := 72, pos := "step.go:46", after := #[], guard := none }) (v := .pointer (some ⟨B, 0, none⟩)) rfl (by kernel_rfl) (by kernel_rfl) (by kernel_rfl) (fun _ _ _ h => hPan _ _ _ _ _ h) (Or.inl ⟨by rfl, ?_⟩) HSX ?_
  · intro wx d0
    go_simp
  simp only [Act.put, List.setIfInBounds_toArray, List.set_cons_zero, List.set_cons_succ]
  refine wpAnyH_ready (rs := [0]) (by kernel_rfl) (by simp) ?_
  refine AllReadyH.cons (o := { dst := some 17, op := Op.call { callee := Callee.value (Operand.func 24), args := #[], argTypes := #[] }, type := 74, pos := "step.go:46", after := #[], guard := none }) rfl (fun K hK => ?_) AllReadyH.nil
  rw [if_pos (by rfl)]
  go_simp
  go_at_call 24
  with_reducible refine (hDe _).mono ?_
  rintro e w1 ⟨rfl, j1⟩
  go_simp
  have kk1 := Kp.trans k0 j1
  refine hK.out _ _ (HSK _ kk1) (fun HSX => ?_)
  clear hK K
  refine wpAnyH_take (i := 6) (oi := { dst := some 23, op := Op.index 74 (Operand.tmp 17) (Operand.tmp 22), type := 73, pos := "step.go:46", after := #[{ on := 0, ground := Ground.data }, { on := 5, ground := Ground.data }], guard := none }) (v := .func (.func F) #[] #[]) rfl (by kernel_rfl) (by kernel_rfl) (by kernel_rfl) (fun _ _ _ h => hPan _ _ _ _ _ h) (Or.inl ⟨by rfl, ?_⟩) HSX ?_
  · intro wx d0
    go_simp
  simp only [Act.put, List.setIfInBounds_toArray, List.set_cons_zero, List.set_cons_succ]
  refine wpAnyH_ready (rs := [8]) (by kernel_rfl) (by simp) ?_
  refine AllReadyH.cons (o := { dst := some 25, op := Op.call { callee := Callee.value (Operand.tmp 23), args := #[Operand.tmp 24], argTypes := #[72] }, type := 0, pos := "step.go:46", after := #[{ on := 6, ground := Ground.data }, { on := 7, ground := Ground.data }, { on := 0, ground := Ground.chain }], guard := none }) rfl (fun K hK => ?_) AllReadyH.nil
  rw [if_pos (by rfl)]
  go_simp
  go_at_fn F
  with_reducible refine (hd _ kk1).mono ?_
  rintro e w2 ⟨rfl, j2⟩
  go_simp
  refine hK.out _ _ (hR _ _ kk1 j2) (fun HSX => ?_)
  clear hK K
  refine wpAnyH_done (by kernel_rfl) ?_ _
  exact hQ _ _ kk1 j2
set_option maxRecDepth 100000 in
set_option maxHeartbeats 4000000 in
theorem ins_yes (w : World) (B bb F : Nat) (s t t2 : St) (x y z : Bd) (h : On w B bb s x) (hF : ∀ W, On W B bb s.s0 x → Calls Tryz.prog 23 #[.pointer (some ⟨B, 0, none⟩)] W fun e w' => e = .returned (.bool true) ∧ Od W B bb x t y w')
    (hop : isO t.op = true) (hFe : dTab.getD t.op.toNat 0 = F) (hent : ∀ args w, (callFunc F args).run Tryz.prog w = .ok (.enter F args) w)
    (hd : ∀ W v, On W B bb t (y.lvTo v) → Calls Tryz.prog F #[.pointer (some ⟨B, 0, none⟩)] W fun e w' => e = .returned (.tuple #[]) ∧ Od W B bb (y.lvTo v) t2 z w') (hb2 : t2.bus = t.bus) (ho2 : t2.op = t.op) :
    Calls Tryz.prog 12 #[.pointer (some ⟨B, 0, none⟩)] w fun e w' => e = .returned (.tuple #[]) ∧ Od w B bb x t2.pcTo z w' := by
  have c16 := h.t.cell 16 (.int .u32 s.g.pc) rfl
  have c27 := h.t.cell 27 _ rfl
  have f27 := h.t.fr 27
  have c28 := h.t.cell 28 _ rfl
  have f28 := h.t.fr 28
  obtain ⟨i0, k0⟩ := h.t.s0
  have hF0 := hF _ (h.st i0 k0 rfl)
  have HK : Hid (Chg w _ (fun k => k = B)) := k0
  have hs := fun w (h : IsT w B t2) => h.set 16 (.int .u32 t2.nx) t2.pcTo rfl
  have g27 := fun w (h : IsT w B t2) => h.cell 27 (.int .u32 t2.nx) rfl
  have g22 := fun w (h : IsT w B t) => h.cell 22 (.int .i64 t.op) rfl
  have hix := fun w => ix74 w t.op hop
  have hDe := fun w => deeds_any w
  have g22b := fun w (h : IsT w B t2) => h.cell 22 (.int .i64 t2.op) rfl
  rw [ho2] at g22b
  rw [hFe] at hix
  clear hF i0 k0 h hFe hop ho2
  generalize dV = D at *
  generalize t.op = op at *
  generalize s.g.pc = pc at *
  generalize t2.nx = nx at *
  go_enter Tryz.func12, Tryz.ntmps12
  go_upto_region 3 with (go_at_call 23; refine hF0.mono ?_; rintro e w1 ⟨rfl, v1, o1, k1, l1⟩)
  refine reg17_3 w1 B F op D (g22 _ o1.t) hDe hix hent (fun V w' => Od V B bb (y.lvTo v1) t2 z w') (fun V kV => hd V v1 (o1.kp kV)) (fun V w' _ hw => by obtain ⟨v2, o2, _⟩ := hw; exact g22b _ o2.t) _ (fun _ _ _ q _ h => by cases q <;> exact h) ?_
  rintro V w2 kV ⟨v2, o2, k2, l2⟩
  have a1 := g27 _ o2.t
  have f1 := o2.t.fr 16
  have d1 := o2.t.cell 16 _ rfl
  have HS : Hid (IsT _ B _ ∧ Chg w2 _ (fun k => k = B)) := hs _ o2.t
  go_wp2_with fail
  go_end0
  refine ⟨rfl, Od.of HK.out (Od.st (s := t2) (Od.comp (s := t2) (y := y) k1 l1 ?_) HS.out.1 HS.out.2 rfl)⟩
  refine ⟨v2, o2, Chg.trans (Kp.any kV) k2 (fun _ _ e => e), ?_⟩
  rcases l2 with l | ⟨k, l, hk⟩
  · exact .inl l
  · exact .inr ⟨k, l, Nat.le_trans kV.size hk⟩
end Go.Proofs.YtghiffpolacmiabGreatDoor
namespace Go.Proofs.YtghiffpolacmiabGreatDoor
open Go.ChangeShapes Go.WideShapes Go.ChangeAt Go.RowKit
set_option linter.unusedVariables false

/-- What is done for each op. -/
def doS (n : Nat) (t : St) (y : Bd) : St :=
  match n with
  | 1 => t.setD ((t.va + t.oth) % 4294967296)
  | 2 => t.setD ((t.va - t.vb) % 4294967296)
  | 3 => t.setD (t.va * t.vb % 4294967296)
  | 4 => t.setD (if t.vb = 0 then 4294967295 else t.va / t.vb)
  | 5 => t.setD (if t.vb = 0 then t.va else t.va % t.vb)
  | 6 => t.setD (bits .and .u32 t.va t.oth)
  | 7 => t.setD (bits .or .u32 t.va t.oth)
  | 8 => t.setD (bits .xor .u32 t.va t.oth)
  | 9 => t.setD (t.va * 2 ^ (t.oth % 32).toNat % 4294967296)
  | 10 => t.setD (t.va / 2 ^ (t.oth % 32).toNat)
  | 11 => t.setD (wrap32 t.va / 2 ^ (t.oth % 32).toNat % 4294967296)
  | 12 => t.setD ((decide (wrap32 t.va < wrap32 t.oth)).toInt)
  | 13 => t.setD ((decide (t.va < t.oth)).toInt)
  | 14 => t.setD ((t.va + t.oth) % 4294967296)
  | 15 => t.setD (bits .and .u32 t.va t.oth)
  | 16 => t.setD (bits .or .u32 t.va t.oth)
  | 17 => t.setD (bits .xor .u32 t.va t.oth)
  | 18 => t.setD (t.va * 2 ^ (t.oth % 32).toNat % 4294967296)
  | 19 => t.setD (t.va / 2 ^ (t.oth % 32).toNat)
  | 20 => t.setD (wrap32 t.va / 2 ^ (t.oth % 32).toNat % 4294967296)
  | 21 => t.setD ((decide (wrap32 t.va < wrap32 t.oth)).toInt)
  | 22 => t.setD ((decide (t.va < t.oth)).toInt)
  | 23 => t.setD (t.vn * 16384 % 4294967296)
  | 24 => lodS t y (wi_lb (nxt y.vs y.iv))
  | 25 => lodS t y (wi_lbu (nxt y.vs y.iv))
  | 26 => lodS t y (wi_lh (nxt y.vs y.iv))
  | 27 => lodS t y (wi_lhu (nxt y.vs y.iv))
  | 28 => lodS t y (wi_lw (nxt y.vs y.iv))
  | 29 => stoS t y
  | 30 => stoS t y
  | 31 => stoS t y
  | 32 => t.goIf (t.va == t.vb)
  | 33 => t.goIf (!(t.va == t.vb))
  | 34 => t.goIf (decide (wrap32 t.va < wrap32 t.vb))
  | 35 => t.goIf (!decide (wrap32 t.va < wrap32 t.vb))
  | 36 => t.goIf (decide (t.va < t.vb))
  | 37 => t.goIf (decide (t.vb ≤ t.va))
  | 38 => (t.setD t.nx).to t.tgt
  | 39 => (t.setD t.nx).to ((t.va + t.vn) % 4294967296)
  | 40 => { t with r := { t.r with kind := 2, num := t.vn } }
  | 41 => (t.clkd y.tm).setD (y.tm % 4294967296)
  | 42 => { t with r := { t.r with kind := 5 } }
  | 43 => { t with g := { t.g with on := true } }
  | 44 => { t with g := { t.g with on := false } }
  | 45 => if t.g.hd = true then { t with nx := t.g.back, g := { t.g with hd := false } } else t.fault 6 t.g.pc
  | 46 => { t with g := { t.g with vec := t.va } }
  | 47 => ({ t with r := { t.r with kind := 4 } } : St).to t.g.pc
  | 48 => t
  | _ => t
def doB (n : Nat) (t : St) (y : Bd) : Bd :=
  match n with
  | 24 => y.lod t.at' 1
  | 25 => y.lod t.at' 1
  | 26 => y.lod t.at' 2
  | 27 => y.lod t.at' 2
  | 28 => y.lod t.at' 4
  | 29 => y.sto t.at' 1 (t.vb % 256)
  | 30 => y.sto t.at' 2 (IntKind.u32.wrap (IntKind.u16.wrap t.vb))
  | 31 => y.sto t.at' 4 t.vb
  | 41 => y.clo
  | _ => y
theorem goIf_bus (t : St) (q : Bool) : (t.goIf q).bus = t.bus ∧ (t.goIf q).op = t.op := by
  cases q <;> exact ⟨rfl, rfl⟩
theorem setD_op (s : St) (v : Int) : (s.setD v).op = s.op := (setD_g s v).2.2.2.2.1
theorem doS_bus (n : Nat) (t : St) (y : Bd) : (doS n t y).bus = t.bus ∧ (doS n t y).op = t.op := by
  unfold doS
  split
  all_goals first
    | exact ⟨rfl, rfl⟩
    | exact ⟨setD_bus _ _, setD_op _ _⟩
    | exact goIf_bus _ _
    | (unfold lodS; split <;> first | exact ⟨setD_bus _ _, setD_op _ _⟩ | exact ⟨rfl, rfl⟩)
    | (unfold stoS; split <;> exact ⟨rfl, rfl⟩)
    | (split <;> exact ⟨rfl, rfl⟩)
/-- A bus that may be. -/
structure Bd.ok (x : Bd) : Prop where
  le : x.le 9990
  tm : 0 ≤ x.tm ∧ x.tm < 18446744073709551616
  vs : ∀ i, 0 ≤ nxt x.vs i ∧ nxt x.vs i < 4294967296
  ws : ∀ i, 0 ≤ nxt x.ws i ∧ nxt x.ws i < 4294967296
theorem Bd.le.more {x : Bd} {n m : Nat} (h : x.le n) (hm : n ≤ m) : x.le m := by
  obtain ⟨h1, h2, h3, h4, h5⟩ := h
  exact ⟨by omega, by omega, by omega, by omega, by omega⟩
/-- One deed of each op, by its number. -/
theorem deed_any (W : World) (B bb n : Nat) (t : St) (y : Bd) (h : On W B bb t y) (ho : t.ok) (hl : y.le 9999) (ht : 0 ≤ y.tm ∧ y.tm < 18446744073709551616) (hv : 0 ≤ nxt y.vs y.iv ∧ nxt y.vs y.iv < 4294967296) (h0 : 0 < n) (h49 : n < 49) :
    Calls Tryz.prog (dTab.getD n 0) #[.pointer (some ⟨B, 0, none⟩)] W fun e w' => e = .returned (.tuple #[]) ∧ Od W B bb y (doS n t y) (doB n t y) w' := by
  have hn : n = 1 ∨ n = 2 ∨ n = 3 ∨ n = 4 ∨ n = 5 ∨ n = 6 ∨ n = 7 ∨ n = 8 ∨ n = 9 ∨ n = 10 ∨ n = 11 ∨ n = 12 ∨ n = 13 ∨ n = 14 ∨ n = 15 ∨ n = 16 ∨ n = 17 ∨ n = 18 ∨ n = 19 ∨ n = 20 ∨ n = 21 ∨ n = 22 ∨ n = 23 ∨ n = 24 ∨ n = 25 ∨ n = 26 ∨ n = 27 ∨ n = 28 ∨ n = 29 ∨ n = 30 ∨ n = 31 ∨ n = 32 ∨ n = 33 ∨ n = 34 ∨ n = 35 ∨ n = 36 ∨ n = 37 ∨ n = 38 ∨ n = 39 ∨ n = 40 ∨ n = 41 ∨ n = 42 ∨ n = 43 ∨ n = 44 ∨ n = 45 ∨ n = 46 ∨ n = 47 ∨ n = 48 := by omega
  have hb := fun n => (doS_bus n t y).1
  rcases hn with rfl | rfl | rfl | rfl | rfl | rfl | rfl | rfl | rfl | rfl | rfl | rfl | rfl | rfl | rfl | rfl | rfl | rfl | rfl | rfl | rfl | rfl | rfl | rfl | rfl | rfl | rfl | rfl | rfl | rfl | rfl | rfl | rfl | rfl | rfl | rfl | rfl | rfl | rfl | rfl | rfl | rfl | rfl | rfl | rfl | rfl | rfl | rfl
  · exact (d_add W h.g B t h.t ho).mono (fun e w' hq => h.vo hq (hb 1))
  · exact (d_sub W h.g B t h.t ho).mono (fun e w' hq => h.vo hq (hb 2))
  · exact (d_mul W h.g B t h.t ho).mono (fun e w' hq => h.vo hq (hb 3))
  · by_cases hz : t.vb = 0
    · refine (d_div0 W h.g B t h.t ho hz).mono (fun e w' hq => ?_)
      have := h.vo hq (setD_bus _ _)
      rw [show doS 4 t y = t.setD (if t.vb = 0 then 4294967295 else t.va / t.vb) from rfl, if_pos hz]
      exact this
    · refine (d_div1 W h.g B t h.t ho hz).mono (fun e w' hq => ?_)
      have := h.vo hq (setD_bus _ _)
      rw [show doS 4 t y = t.setD (if t.vb = 0 then 4294967295 else t.va / t.vb) from rfl, if_neg hz]
      exact this
  · by_cases hz : t.vb = 0
    · refine (d_rem0 W h.g B t h.t ho hz).mono (fun e w' hq => ?_)
      have := h.vo hq (setD_bus _ _)
      rw [show doS 5 t y = t.setD (if t.vb = 0 then t.va else t.va % t.vb) from rfl, if_pos hz]
      exact this
    · refine (d_rem1 W h.g B t h.t ho hz).mono (fun e w' hq => ?_)
      have := h.vo hq (setD_bus _ _)
      rw [show doS 5 t y = t.setD (if t.vb = 0 then t.va else t.va % t.vb) from rfl, if_neg hz]
      exact this
  · exact (d_and W h.g B t h.t ho).mono (fun e w' hq => h.vo hq (hb 6))
  · exact (d_or W h.g B t h.t ho).mono (fun e w' hq => h.vo hq (hb 7))
  · exact (d_xor W h.g B t h.t ho).mono (fun e w' hq => h.vo hq (hb 8))
  · exact (d_shl W h.g B t h.t ho).mono (fun e w' hq => h.vo hq (hb 9))
  · exact (d_shr W h.g B t h.t ho).mono (fun e w' hq => h.vo hq (hb 10))
  · exact (d_sar W h.g B t h.t ho).mono (fun e w' hq => h.vo hq (hb 11))
  · exact (d_slt W h.g B t h.t ho).mono (fun e w' hq => h.vo hq (hb 12))
  · exact (d_sltu W h.g B t h.t ho).mono (fun e w' hq => h.vo hq (hb 13))
  · exact (d_add W h.g B t h.t ho).mono (fun e w' hq => h.vo hq (hb 14))
  · exact (d_and W h.g B t h.t ho).mono (fun e w' hq => h.vo hq (hb 15))
  · exact (d_or W h.g B t h.t ho).mono (fun e w' hq => h.vo hq (hb 16))
  · exact (d_xor W h.g B t h.t ho).mono (fun e w' hq => h.vo hq (hb 17))
  · exact (d_shl W h.g B t h.t ho).mono (fun e w' hq => h.vo hq (hb 18))
  · exact (d_shr W h.g B t h.t ho).mono (fun e w' hq => h.vo hq (hb 19))
  · exact (d_sar W h.g B t h.t ho).mono (fun e w' hq => h.vo hq (hb 20))
  · exact (d_slt W h.g B t h.t ho).mono (fun e w' hq => h.vo hq (hb 21))
  · exact (d_sltu W h.g B t h.t ho).mono (fun e w' hq => h.vo hq (hb 22))
  · exact (d_lui W h.g B t h.t ho).mono (fun e w' hq => h.vo hq (hb 23))
  · exact d_lb W B bb t y h ho hl hv
  · exact d_lbu W B bb t y h ho hl hv
  · exact d_lh W B bb t y h ho hl hv
  · exact d_lhu W B bb t y h ho hl hv
  · exact d_lw W B bb t y h ho hl hv
  · exact d_sb W B bb t y h ho hl
  · exact d_sh W B bb t y h ho hl
  · exact d_sw W B bb t y h ho hl
  · exact (d_beq W h.g B t h.t ho).mono (fun e w' hq => h.vo hq (hb 32))
  · exact (d_bne W h.g B t h.t ho).mono (fun e w' hq => h.vo hq (hb 33))
  · exact (d_blt W h.g B t h.t ho).mono (fun e w' hq => h.vo hq (hb 34))
  · exact (d_bge W h.g B t h.t ho).mono (fun e w' hq => h.vo hq (hb 35))
  · exact (d_bltu W h.g B t h.t ho).mono (fun e w' hq => h.vo hq (hb 36))
  · exact (d_bgeu W h.g B t h.t ho).mono (fun e w' hq => h.vo hq (hb 37))
  · exact (d_jal W h.g B t h.t ho).mono (fun e w' hq => h.vo hq (hb 38))
  · exact (d_jalr W h.g B t h.t ho).mono (fun e w' hq => h.vo hq (hb 39))
  · exact (d_hcall W h.g B t h.t ho).mono (fun e w' hq => h.vo hq (hb 40))
  · exact d_clock W B bb t y h ho hl ht
  · exact (d_wait W h.g B t h.t ho).mono (fun e w' hq => h.vo hq (hb 42))
  · exact (d_ei W h.g B t h.t ho).mono (fun e w' hq => h.vo hq (hb 43))
  · exact (d_di W h.g B t h.t ho).mono (fun e w' hq => h.vo hq (hb 44))
  · cases hd : t.g.hd
    · refine (d_eret0 W h.g B t h.t ho hd).mono (fun e w' hq => ?_)
      have := h.vo hq rfl
      rw [show doS 45 t y = if t.g.hd = true then { t with nx := t.g.back, g := { t.g with hd := false } } else t.fault 6 t.g.pc from rfl, if_neg (by rw [hd]; decide)]
      exact this
    · refine (d_eret1 W h.g B t h.t ho hd).mono (fun e w' hq => ?_)
      have := h.vo hq rfl
      rw [show doS 45 t y = if t.g.hd = true then { t with nx := t.g.back, g := { t.g with hd := false } } else t.fault 6 t.g.pc from rfl, if_pos hd]
      exact this
  · exact (d_vec W h.g B t h.t ho).mono (fun e w' hq => h.vo hq (hb 46))
  · exact (d_halt W h.g B t h.t ho).mono (fun e w' hq => h.vo hq (hb 47))
  · exact (d_nop W h.g B t h.t ho).mono (fun e w' hq => h.vo hq (hb 48))
end Go.Proofs.YtghiffpolacmiabGreatDoor
