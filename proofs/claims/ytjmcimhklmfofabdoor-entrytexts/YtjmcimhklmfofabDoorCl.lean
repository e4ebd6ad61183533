import Derived.Test.YtjmcimhklmfofabDoorOwn
import Derived.Lib.Strings
import Derived.Lib.BufferWrite
import Derived.Lib.UnsafeStr
import Derived.Lib.IfaceEq
import Derived.Laws.MakeOwn
import Derived.Deep.RegionWith
import Derived.Lib.AtoiErrMem
namespace Go.Proofs.YtjmcimhklmfofabDoor
open Go.ChangeShapes Go.WideShapes Go.ChangeAt Go.RowKit
set_option linter.unusedVariables false

theorem Kp.ofBelow {w w' : World} (h : Below w.heap.size w w') : Kp w w' := ⟨h.os, h.tape, h.output, h.size, fun k hk _ => h.block k hk⟩
theorem byte_info : ∃ i, Tryd.prog.info? 5 = some i ∧ i.zero = some (.int .u8 0) ∧ i.size = 1 ∧ i.bytes = 1 := by
  have h : (Tryd.prog.info? 5).map (fun i => (i.zero, i.size, i.bytes)) = some (some (.int .u8 0), 1, 1) := by kernel_rfl
  cases hi : Tryd.prog.info? 5 with
  | none => rw [hi] at h; cases h
  | some i =>
    rw [hi] at h
    simp only [Option.map_some, Option.some.injEq, Prod.mk.injEq] at h
    exact ⟨i, rfl, h.1, h.2.1, h.2.2⟩

/-- 'make([]byte, 3)'. -/
theorem make_3 (W : World) : (Instr.makeSlice 53 (.int .i64 3) (.int .i64 3)).run Tryd.prog W = .ok (.slice (some ⟨W.heap.size, 0, none⟩) 3 3) (W.alloc (.cells #[.int .u8 0, .int .u8 0, .int .u8 0] 5)) := by
  obtain ⟨i, hi, z, one, by1⟩ := byte_info
  have h := run_make (P := Tryd.prog) W 53 5 i (.int .u8 0) Tryd.underlying53 hi z .i64 .i64 3 3 (by omega) (by omega) (by rw [by1]; omega) (by omega)
  rw [one, show madeCells (Value.int .u8 0).cells ((3 : Int).toNat * 1) = #[.int .u8 0, .int .u8 0, .int .u8 0] from by kernel_rfl] at h
  exact h
/-- 'copy(b, s)' into it. -/
theorem copy_3 (W : World) (B : Nat) (z0 z1 z2 : Value) (a b c : UInt8) (h : W.heap[B]? = some (.cells #[z0, z1, z2] 5 (0, 0))) :
    (Builtin.copy_ #[53, 9] 3 #[.slice (some ⟨B, 0, none⟩) 3 3, .string ⟨#[a, b, c]⟩]).run Tryd.prog W = .ok (.int .i64 3) (W.setRow B #[.int .u8 a.toNat, .int .u8 b.toNat, .int .u8 c.toNat]) := by
  obtain ⟨i, hi, _, one, _⟩ := byte_info
  exact Lib.run_copy_row_string (P := Tryd.prog) W 53 9 3 5 B 0 3 3 ⟨#[a, b, c]⟩ #[z0, z1, z2] 5 Tryd.underlying53 (by rw [hi]; simp [one]) h (show 3 ≤ 3 by omega) (show 0 + 3 ≤ 3 by omega)
/-- The bytes of it as a text. -/
theorem string_3 (W : World) (B : Nat) (a b c : UInt8) (h : W.heap[B]? = some (.cells #[.int .u8 a.toNat, .int .u8 b.toNat, .int .u8 c.toNat] 5 (0, 0))) :
    (Builtin.unsafeString_ #[84, 3] 9 #[.pointer (some ⟨B, 0, none⟩), .int .i64 3]).run Tryd.prog W = .ok (.string ⟨#[a, b, c]⟩) (W.freeze ⟨B, 0, none⟩ 3) := by
  obtain ⟨i, hi, _, one, _⟩ := byte_info
  refine Lib.run_unsafeString_row (P := Tryd.prog) W 84 3 9 5 Tryd.underlying84 (by simp [Program.cellsOf, hi, one]) B 3 (by unfold World.shape?; rw [h]; rfl) [a, b, c] (by simp) (by simp) (by simp) ?_
  intro j x hj
  rw [Addr.add_lit, (cells_at h _).1]
  match j, hj with
  | 0, hj => simp at hj; simp [hj]
  | 1, hj => simp at hj; simp [hj]
  | 2, hj => simp at hj; simp [hj]
  | n + 3, hj => simp at hj

set_option maxRecDepth 100000 in
theorem clone_3 (a b c : UInt8) (w : World) :
    Calls Tryd.prog 59 #[.string ⟨#[a, b, c]⟩] w fun e w' => e = .returned (.string ⟨#[a, b, c]⟩) ∧ Kp w w' := by
  have m3 := make_3
  have r0 := heap_alloc_new w (.cells #[.int .u8 0, .int .u8 0, .int .u8 0] 5)
  have c3 := copy_3 _ _ _ _ _ a b c r0
  have r1 := setRow_heap (w.alloc (.cells #[.int .u8 0, .int .u8 0, .int .u8 0] 5)) w.heap.size _ #[.int .u8 a.toNat, .int .u8 b.toNat, .int .u8 c.toNat] 5 (0, 0) r0
  have s3 := string_3 _ _ a b c r1
  clear r0 r1
  go_enter Tryd.func59, Tryd.ntmps59
  go_wp2
  go_ret
  have k1 : Below w.heap.size w (w.alloc (.cells #[.int .u8 0, .int .u8 0, .int .u8 0] 5)) := (Below.refl _ w).alloc (Nat.le_refl _) _
  have k2 : Below w.heap.size (w.alloc (.cells #[.int .u8 0, .int .u8 0, .int .u8 0] 5)) ((w.alloc (.cells #[.int .u8 0, .int .u8 0, .int .u8 0] 5)).setRow w.heap.size #[.int .u8 a.toNat, .int .u8 b.toNat, .int .u8 c.toNat]) := ⟨rfl, rfl, rfl, by simp, fun k hk => setRow_other _ _ _ _ (by omega)⟩
  exact ⟨rfl, Kp.ofBelow (Lib.below_freeze (k1.trans k2) (p := ⟨w.heap.size, 0, none⟩) (Nat.le_refl _) _)⟩

set_option maxHeartbeats 4000000 in
set_option maxRecDepth 100000 in
theorem syntaxError_any (fn : ByteArray) (a b c : UInt8) (w : World) (te : TypeId) (pe : Value) (hv : w.cell? ⟨1, 0, none⟩ = some (.iface te pe)) :
    Calls Tryd.prog 48 #[.string fn, .string ⟨#[a, b, c]⟩] w fun e w' => ∃ N, e = .returned (.pointer (some ⟨N, 0, none⟩)) ∧ Kp w w' := by
  have hC : ∀ V, Kp w V → Calls Tryd.prog 59 #[.string ⟨#[a, b, c]⟩] V fun e w' => e = .returned (.string ⟨#[a, b, c]⟩) ∧ Kp w w' ∧ w'.cell? ⟨1, 0, none⟩ = some (.iface te pe) := fun V hV => (clone_3 a b c V).mono fun e w' ⟨he, hk⟩ => ⟨he, Kp.trans hV hk, Kp.cell hk (Kp.cell hV hv)⟩
  go_enter Tryd.func48, Tryd.ntmps48
  go_wp2
  go_region_with (go_at_call 59; refine (hC _ (by first | exact Chg.refl _ _ | exact Chg.drew (Chg.refl _ _))).mono ?_; rintro e w2 ⟨rfl, k2, c2⟩)
  all_goals go_wp2
  all_goals go_ret
  all_goals exact ⟨_, rfl, by repeat (first | exact k2 | apply Chg.drew | apply Chg.alloc)⟩

theorem tag98 : (Tryd.prog.info? 85).map (fun i => i.comparable) = some true := by kernel_rfl
set_option maxRecDepth 100000 in
theorem toError_any (fn : ByteArray) (a b c : UInt8) (w : World) (te : TypeId) (pe : Value) (hv : w.cell? ⟨1, 0, none⟩ = some (.iface te pe)) (x y : Int) :
    Calls Tryd.prog 36 #[.string fn, .string ⟨#[a, b, c]⟩, .int .i64 x, .int .i64 y, .iface 85 (.int .i64 2)] w fun e w' => ∃ N, e = .returned (.iface 87 (.pointer (some ⟨N, 0, none⟩))) ∧ Kp w w' := by
  have hS := syntaxError_any fn a b c w te pe hv
  have he : ∀ W, (binOp .eql 58 (.iface 85 (.int .i64 2)) (.iface 85 (.int .i64 2))).run Tryd.prog W = .ok (.bool true) W := fun W => Lib.run_eql_iface_int W 2 2 Tryd.underlying58 tag98 Tryd.underlying85
  go_enter Tryd.func36, Tryd.ntmps36
  go_wp2_with (go_at_call 48; refine hS.mono ?_; rintro e w1 ⟨N, rfl, k1⟩)
  go_ret
  exact ⟨N, rfl, k1⟩
end Go.Proofs.YtjmcimhklmfofabDoor
