import Derived.Test.YtghiffpolacmiabDoorUp
namespace Go.Proofs.YtghiffpolacmiabDoor
open Go.ChangeShapes Go.WideShapes Go.ChangeAt Go.RowKit
set_option linter.unusedVariables false

def St.s0 (s : St) : St := { s with nx := (s.g.pc + 4) % 4294967296, r := { s.r with kind := 1 } }
def St.pcTo (s : St) : St := { s with g := { s.g with pc := s.nx } }
theorem IsT.s0 {w : World} {B : Nat} {s : St} (h : IsT w B s) : IsT ((w.setCell ⟨B, 27, none⟩ (.int .u32 ((s.g.pc + 4) % 4294967296))).setCell ⟨B, 28, none⟩ (.int .i64 1)) B s.s0 ∧ Chg w ((w.setCell ⟨B, 27, none⟩ (.int .u32 ((s.g.pc + 4) % 4294967296))).setCell ⟨B, 28, none⟩ (.int .i64 1)) (fun k => k = B) := by
  obtain ⟨i1, k1⟩ := h.set 27 (.int .u32 ((s.g.pc + 4) % 4294967296)) { s with nx := (s.g.pc + 4) % 4294967296 } rfl
  obtain ⟨i2, k2⟩ := i1.set 28 (.int .i64 1) s.s0 rfl
  exact ⟨i2, Chg.trans k1 k2 (fun _ _ e => e)⟩
set_option maxRecDepth 100000 in
set_option maxHeartbeats 4000000 in
theorem ins_no (w : World) (B bb : Nat) (s t : St) (x y : Bd) (h : On w B bb s x) (hF : ∀ W, On W B bb s.s0 x → Calls Tryd.prog 25 #[.pointer (some ⟨B, 0, none⟩)] W fun e w' => e = .returned (.bool false) ∧ Od W B bb x t y w') :
    Calls Tryd.prog 17 #[.pointer (some ⟨B, 0, none⟩)] w fun e w' => e = .returned (.tuple #[]) ∧ Od w B bb x t.pcTo y w' := by
  have c16 := h.t.cell 16 (.int .u32 s.g.pc) rfl
  have c27 := h.t.cell 27 _ rfl
  have f27 := h.t.fr 27
  have c28 := h.t.cell 28 _ rfl
  have f28 := h.t.fr 28
  obtain ⟨i0, k0⟩ := h.t.s0
  have hF0 := hF _ (h.st i0 k0 rfl)
  have HK : Hid (Chg w _ (fun k => k = B)) := k0
  have hs := fun w (h : IsT w B t) => h.set 16 (.int .u32 t.nx) t.pcTo rfl
  have g27 := fun w (h : IsT w B t) => h.cell 27 (.int .u32 t.nx) rfl
  clear hF i0 k0 h
  generalize s.g.pc = pc at *
  generalize t.nx = nx at *
  go_enter Tryd.func17, Tryd.ntmps17
  go_wp2_with (go_at_call 25; refine hF0.mono ?_; rintro e w1 ⟨rfl, v1, o1, k1, l1⟩; have a1 := g27 _ o1.t; have f1 := o1.t.fr 16; have d1 := o1.t.cell 16 _ rfl; have HS : Hid (IsT _ B _ ∧ Chg w1 _ (fun k => k = B)) := hs _ o1.t)
  go_end0
  exact ⟨rfl, Od.of HK.out (Od.st ⟨v1, o1, k1, l1⟩ HS.out.1 HS.out.2 rfl)⟩
end Go.Proofs.YtghiffpolacmiabDoor
