import Derived.Test.YtghiffpolacmiabDoorUi
namespace Go.Proofs.YtghiffpolacmiabDoor
open Go.ChangeShapes Go.WideShapes Go.ChangeAt Go.RowKit
set_option linter.unusedVariables false

theorem d_sb (w : World) (B bb : Nat) (s : St) (x : Bd) (h : On w B bb s x) (ho : s.ok) (hx : x.le 9999) :
    Calls Tryd.prog 50 #[.pointer (some ⟨B, 0, none⟩)] w fun e w' => e = .returned (.tuple #[]) ∧ Od w B bb x (stoS s x) (x.sto s.at' 1 (s.vb % 256)) w' := by
  have hB := b_any w B s h.t ho
  have hS := fun w h => st_any w B bb s x h ho hx 1 (s.vb % 256)
  have rb := ho.rb
  generalize s.vb = vb at *
  go_enter Tryd.func50, Tryd.ntmps50
  go_wp2_with (first
    | (go_at_call 75; refine hB.mono ?_; rintro e w1 ⟨rfl, k1⟩)
    | (go_at_call 85; refine (hS _ (h.kp k1)).mono ?_; rintro e w2 ⟨rfl, v', i9, k9, l9⟩))
  go_end0
  refine ⟨rfl, v', i9, Chg.trans (Kp.any k1) k9 (fun _ _ e => e), ?_⟩
  rcases l9 with l | ⟨k, l, l2⟩
  · exact .inl l
  · exact .inr ⟨k, l, Nat.le_trans k1.size l2⟩
theorem d_sh (w : World) (B bb : Nat) (s : St) (x : Bd) (h : On w B bb s x) (ho : s.ok) (hx : x.le 9999) :
    Calls Tryd.prog 51 #[.pointer (some ⟨B, 0, none⟩)] w fun e w' => e = .returned (.tuple #[]) ∧ Od w B bb x (stoS s x) (x.sto s.at' 2 (IntKind.u32.wrap (IntKind.u16.wrap s.vb))) w' := by
  have hB := b_any w B s h.t ho
  have hS := fun w h => st_any w B bb s x h ho hx 2 (IntKind.u32.wrap (IntKind.u16.wrap s.vb))
  have rb := ho.rb
  generalize s.vb = vb at *
  go_enter Tryd.func51, Tryd.ntmps51
  go_wp2_with (first
    | (go_at_call 75; refine hB.mono ?_; rintro e w1 ⟨rfl, k1⟩)
    | (go_at_call 85; refine (hS _ (h.kp k1)).mono ?_; rintro e w2 ⟨rfl, v', i9, k9, l9⟩))
  go_end0
  refine ⟨rfl, v', i9, Chg.trans (Kp.any k1) k9 (fun _ _ e => e), ?_⟩
  rcases l9 with l | ⟨k, l, l2⟩
  · exact .inl l
  · exact .inr ⟨k, l, Nat.le_trans k1.size l2⟩
theorem d_sw (w : World) (B bb : Nat) (s : St) (x : Bd) (h : On w B bb s x) (ho : s.ok) (hx : x.le 9999) :
    Calls Tryd.prog 52 #[.pointer (some ⟨B, 0, none⟩)] w fun e w' => e = .returned (.tuple #[]) ∧ Od w B bb x (stoS s x) (x.sto s.at' 4 s.vb) w' := by
  have hB := b_any w B s h.t ho
  have hS := fun w h => st_any w B bb s x h ho hx 4 s.vb
  generalize s.vb = vb at *
  go_enter Tryd.func52, Tryd.ntmps52
  go_wp2_with (first
    | (go_at_call 75; refine hB.mono ?_; rintro e w1 ⟨rfl, k1⟩)
    | (go_at_call 85; refine (hS _ (h.kp k1)).mono ?_; rintro e w2 ⟨rfl, v', i9, k9, l9⟩))
  go_end0
  refine ⟨rfl, v', i9, Chg.trans (Kp.any k1) k9 (fun _ _ e => e), ?_⟩
  rcases l9 with l | ⟨k, l, l2⟩
  · exact .inl l
  · exact .inr ⟨k, l, Nat.le_trans k1.size l2⟩
/-- The clock is read. -/
def St.clkd (s : St) (t : Int) : St := { s with r := { s.r with rd := true, clk := t } }
set_option maxRecDepth 100000 in
theorem d_clock (w : World) (B bb : Nat) (s : St) (x : Bd) (h : On w B bb s x) (ho : s.ok) (hx : x.le 9999) (ht : 0 ≤ x.tm ∧ x.tm < 18446744073709551616) :
    Calls Tryd.prog 62 #[.pointer (some ⟨B, 0, none⟩)] w fun e w' => e = .returned (.tuple #[]) ∧ Od w B bb x ((s.clkd x.tm).setD (x.tm % 4294967296)) x.clo w' := by
  have cb := h.t.cell 21 s.bus rfl
  have hm := m_Clock bb
  have hS := clock_any w bb x h.b (by obtain ⟨q1, q2, q3, q4, q5⟩ := hx; refine ⟨?_, ?_, ?_, ?_, ?_⟩ <;> omega) ht
  have hO := fun w' (hv : Bo w bb x x.clo w') => h.bo hv (fun k => Iff.rfl)
  have hs := fun w (h : IsT w B s) => h.set 36 (.bool true) { s with r := { s.r with rd := true } } rfl
  have hs2 := fun w (h : IsT w B { s with r := { s.r with rd := true } }) => h.set 37 (.int .u64 x.tm) (s.clkd x.tm) rfl
  have hX := fun w (h : IsT w B (s.clkd x.tm)) => h.cell 37 (.int .u64 x.tm) rfl
  have hD := fun w h => set_any w B (s.clkd x.tm) h ⟨ho.d, ho.a, ho.b, ho.r⟩ (x.tm % 4294967296)
  have hb1 : ((s.clkd x.tm).setD (x.tm % 4294967296)).bus = s.bus := (setD_g _ _).2.2.2.2.2
  rw [h.bus] at cb
  unfold busV at cb
  clear h
  generalize (s.clkd x.tm).setD (x.tm % 4294967296) = s9 at *
  generalize s.clkd x.tm = s8 at *
  generalize ({ s with r := { s.r with rd := true } } : St) = s7 at *
  generalize x.clo = y at *
  generalize x.tm = tm at *
  go_enter Tryd.func62, Tryd.ntmps62
  go_wp2_with (first
    | (go_at_call 103; refine hS.mono ?_; rintro e w3 ⟨rfl, b3⟩; obtain ⟨v3, o3, k3, l3⟩ := hO _ b3; have a1 := o3.t.cell 36 _ rfl; have b1 := o3.t.fr 36; obtain ⟨q1, j1⟩ := hs _ o3.t; have a2 := q1.cell 37 _ rfl; have b2 := q1.fr 37; obtain ⟨q2, j2⟩ := hs2 _ q1; have a4 := hX _ q2; have hD4 := hD _ q2; have HS : Hid (Chg w3 _ (fun k => k = B)) := Chg.trans j1 j2 (fun _ _ e => e); clear q1 q2 j1 j2)
    | (go_at_call 72; refine hD4.mono ?_; rintro e w5 ⟨rfl, i5, k5⟩))
  go_end0
  exact ⟨rfl, Od.trans k3 l3 o3 i5 (Chg.trans HS.out k5 (fun _ _ e => e)) hb1⟩
end Go.Proofs.YtghiffpolacmiabDoor
