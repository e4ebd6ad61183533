import Derived.Test.YtghiffpolacmiabDoorUa
namespace Go.Proofs.YtghiffpolacmiabDoor
open Go.ChangeShapes Go.WideShapes Go.ChangeAt Go.RowKit
set_option linter.unusedVariables false

theorem lessSigned_any (w : World) (a b : Int) :
    Calls Tryd.prog 77 #[.int .u32 a, .int .u32 b] w fun e w' => e = .returned (.bool (decide (wrap32 a < wrap32 b))) ∧ Kp w w' := by
  go_enter Tryd.func77, Tryd.ntmps77
  go_wp2
  go_ret
  exact ⟨rfl, Kp.refl w⟩
theorem setWhether_any (w : World) (B : Nat) (s : St) (h : IsT w B s) (ho : s.ok) (q : Bool) :
    Calls Tryd.prog 76 #[.pointer (some ⟨B, 0, none⟩), .bool q] w fun e w' => Vo w B (s.setD q.toInt) e w' := by
  have hS := fun w h v => set_any w B s h ho v
  cases q
  all_goals (
    go_enter Tryd.func76, Tryd.ntmps76
    go_wp2_with (go_at_call 72; refine (hS _ h _).mono ?_; rintro e w1 ⟨rfl, i9, c9⟩)
    first | go_end0 | refine bodyPost_ret (results_none rfl _ _ _) rfl ?_
    exact ⟨rfl, i9, c9⟩)
/-- Where a branch goes. -/
def St.tgt (s : St) : Int := (s.g.pc + 4 * s.vn % 4294967296) % 4294967296
theorem target_any (w : World) (B : Nat) (s : St) (h : IsT w B s) :
    Calls Tryd.prog 87 #[.pointer (some ⟨B, 0, none⟩)] w fun e w' => e = .returned (.int .u32 s.tgt) ∧ Kp w w' := by
  have hN := fun n => n_same (w.drewN n) B s (h.kp ((Kp.refl w).drewN n))
  have hN0 := n_same w B s h
  have c1 := h.cell 16 (.int .u32 s.g.pc) rfl
  have e1 : s.tgt = (s.g.pc + 4 * s.vn % 4294967296) % 4294967296 := rfl
  rw [e1]
  clear e1 h
  generalize s.vn = n at *
  generalize s.g.pc = p at *
  go_enter Tryd.func87, Tryd.ntmps87
  go_upto_region 1 with (fail)
  go_quiet (first | (go_at_call 78; exact Calls.quiet_of_same hN0) | (go_at_call 78; exact Calls.quiet_of_same (hN _)))
  go_wp2
  go_ret
  exact ⟨rfl, (Kp.refl w).drewN _⟩
/-- The fields of a step, changed. -/
def St.to (s : St) (n : Int) : St := { s with nx := n }
def St.goIf (s : St) (q : Bool) : St := if q then s.to s.tgt else s
def St.fault (s : St) (f a : Int) : St := { s with nx := s.g.pc, r := { s.r with kind := 3, flt := f, addr := a } }
theorem goIf_any (w : World) (B : Nat) (s : St) (h : IsT w B s) (q : Bool) :
    Calls Tryd.prog 86 #[.pointer (some ⟨B, 0, none⟩), .bool q] w fun e w' => Vo w B (s.goIf q) e w' := by
  have hT := fun w h => target_any w B s h
  cases q
  · go_enter Tryd.func86, Tryd.ntmps86
    go_wp2
    go_end0
    exact ⟨rfl, h, Chg.refl _ _⟩
  · have e1 : s.goIf true = s.to s.tgt := rfl
    rw [e1]
    have hs := fun w (h : IsT w B s) => h.set 27 (.int .u32 s.tgt) (s.to s.tgt) rfl
    clear e1
    generalize s.to s.tgt = t at *
    generalize s.tgt = v at *
    go_enter Tryd.func86, Tryd.ntmps86
    go_wp2_with (go_at_call 87; refine (hT _ h).mono ?_; rintro e w1 ⟨rfl, k1⟩; have c9 := (h.kp k1).cell 27 _ rfl; have f9 := (h.kp k1).fr 27; have HS : Hid (IsT (w1.setCell ⟨B, 27, none⟩ (.int .u32 v)) B t ∧ Chg w1 (w1.setCell ⟨B, 27, none⟩ (.int .u32 v)) (fun k => k = B)) := hs w1 (h.kp k1))
    go_end0
    exact ⟨rfl, HS.out.1, Chg.trans (Kp.any k1) HS.out.2 (fun _ _ e => e)⟩
theorem stay_any (w : World) (B : Nat) (s : St) (h : IsT w B s) :
    Calls Tryd.prog 71 #[.pointer (some ⟨B, 0, none⟩)] w fun e w' => Vo w B (s.to s.g.pc) e w' := by
  have c1 := h.cell 16 (.int .u32 s.g.pc) rfl
  have c9 := h.cell 27 _ rfl
  have f9 := h.fr 27
  have HS : Hid (IsT (w.setCell ⟨B, 27, none⟩ (.int .u32 s.g.pc)) B (s.to s.g.pc) ∧ Chg w (w.setCell ⟨B, 27, none⟩ (.int .u32 s.g.pc)) (fun k => k = B)) := h.set 27 (.int .u32 s.g.pc) (s.to s.g.pc) rfl
  clear h
  generalize s.to s.g.pc = t at *
  generalize s.g.pc = p at *
  go_enter Tryd.func71, Tryd.ntmps71
  go_wp2
  go_end0
  exact ⟨rfl, HS.out⟩
theorem refuse_any (w : World) (B : Nat) (s : St) (h : IsT w B s) (f a : Int) :
    Calls Tryd.prog 30 #[.pointer (some ⟨B, 0, none⟩), .int .i64 f, .int .u32 a] w fun e w' => Vo w B (s.fault f a) e w' := by
  have d1 := h.cell 28 _ rfl
  have g1 := h.fr 28
  obtain ⟨i1, k1⟩ := h.set 28 (.int .i64 3) { s with r := { s.r with kind := 3 } } rfl
  have d2 := i1.cell 31 _ rfl
  have g2 := i1.fr 31
  obtain ⟨i2, k2⟩ := i1.set 31 (.int .i64 f) { s with r := { s.r with kind := 3, flt := f } } rfl
  have d3 := i2.cell 32 _ rfl
  have g3 := i2.fr 32
  obtain ⟨i3, k3⟩ := i2.set 32 (.int .u32 a) { s with r := { s.r with kind := 3, flt := f, addr := a } } rfl
  have hS := stay_any _ B _ i3
  have KK := Chg.trans (Chg.trans k1 k2 (fun _ _ e => e)) k3 (fun _ _ e => e)
  clear i1 i2 i3 k1 k2 k3 h
  go_enter Tryd.func30, Tryd.ntmps30
  go_wp2_with (go_at_call 71; refine hS.mono ?_; rintro e w1 ⟨rfl, i9, c9⟩)
  go_end0
  exact ⟨rfl, i9, Chg.trans KK c9 (fun _ _ e => e)⟩
end Go.Proofs.YtghiffpolacmiabDoor
