import Derived.Test.YtghiffpolacmiabGreatDoorUi
import Derived.BigRegion
namespace Go.Proofs.YtghiffpolacmiabGreatDoor
open Go.ChangeShapes Go.WideShapes Go.ChangeAt Go.RowKit
set_option linter.unusedVariables false

theorem d_sb (w : World) (B bb : Nat) (s : St) (x : Bd) (h : On w B bb s x) (ho : s.ok) (hx : x.le 9999) :
    Calls Tryz.prog 55 #[.pointer (some ⟨B, 0, none⟩)] w fun e w' => e = .returned (.tuple #[]) ∧ Od w B bb x (stoS s x) (x.sto s.at' 1 (s.vb % 256)) w' := by
  have hB := b_any w B s h.t ho
  have hS := fun w h => st_any w B bb s x h ho hx 1 (s.vb % 256)
  have rb := ho.rb
  generalize s.vb = vb at *
  go_enter Tryz.func55, Tryz.ntmps55
  go_wp2_with (first
    | (go_at_call 83; refine hB.mono ?_; rintro e w1 ⟨rfl, k1⟩)
    | (go_at_call 93; refine (hS _ (h.kp k1)).mono ?_; rintro e w2 ⟨rfl, v', i9, k9, l9⟩))
  go_end0
  refine ⟨rfl, v', i9, Chg.trans (Kp.any k1) k9 (fun _ _ e => e), ?_⟩
  rcases l9 with l | ⟨k, l, l2⟩
  · exact .inl l
  · exact .inr ⟨k, l, Nat.le_trans k1.size l2⟩
theorem d_sh (w : World) (B bb : Nat) (s : St) (x : Bd) (h : On w B bb s x) (ho : s.ok) (hx : x.le 9999) :
    Calls Tryz.prog 56 #[.pointer (some ⟨B, 0, none⟩)] w fun e w' => e = .returned (.tuple #[]) ∧ Od w B bb x (stoS s x) (x.sto s.at' 2 (IntKind.u32.wrap (IntKind.u16.wrap s.vb))) w' := by
  have hB := b_any w B s h.t ho
  have hS := fun w h => st_any w B bb s x h ho hx 2 (IntKind.u32.wrap (IntKind.u16.wrap s.vb))
  have rb := ho.rb
  generalize s.vb = vb at *
  go_enter Tryz.func56, Tryz.ntmps56
  go_wp2_with (first
    | (go_at_call 83; refine hB.mono ?_; rintro e w1 ⟨rfl, k1⟩)
    | (go_at_call 93; refine (hS _ (h.kp k1)).mono ?_; rintro e w2 ⟨rfl, v', i9, k9, l9⟩))
  go_end0
  refine ⟨rfl, v', i9, Chg.trans (Kp.any k1) k9 (fun _ _ e => e), ?_⟩
  rcases l9 with l | ⟨k, l, l2⟩
  · exact .inl l
  · exact .inr ⟨k, l, Nat.le_trans k1.size l2⟩
theorem d_sw (w : World) (B bb : Nat) (s : St) (x : Bd) (h : On w B bb s x) (ho : s.ok) (hx : x.le 9999) :
    Calls Tryz.prog 57 #[.pointer (some ⟨B, 0, none⟩)] w fun e w' => e = .returned (.tuple #[]) ∧ Od w B bb x (stoS s x) (x.sto s.at' 4 s.vb) w' := by
  have hB := b_any w B s h.t ho
  have hS := fun w h => st_any w B bb s x h ho hx 4 s.vb
  generalize s.vb = vb at *
  go_enter Tryz.func57, Tryz.ntmps57
  go_wp2_with (first
    | (go_at_call 83; refine hB.mono ?_; rintro e w1 ⟨rfl, k1⟩)
    | (go_at_call 93; refine (hS _ (h.kp k1)).mono ?_; rintro e w2 ⟨rfl, v', i9, k9, l9⟩))
  go_end0
  refine ⟨rfl, v', i9, Chg.trans (Kp.any k1) k9 (fun _ _ e => e), ?_⟩
  rcases l9 with l | ⟨k, l, l2⟩
  · exact .inl l
  · exact .inr ⟨k, l, Nat.le_trans k1.size l2⟩
/-- The clock is read. -/
def St.clkd (s : St) (t : Int) : St := { s with r := { s.r with rd := true, clk := t } }
set_option maxRecDepth 100000 in
theorem d_clock (w : World) (B bb : Nat) (s : St) (x : Bd) (h : On w B bb s x) (ho : s.ok) (hx : x.le 9999) (ht : 0 ≤ x.tm ∧ x.tm < 18446744073709551616) :
    Calls Tryz.prog 67 #[.pointer (some ⟨B, 0, none⟩)] w fun e w' => e = .returned (.tuple #[]) ∧ Od w B bb x ((s.clkd x.tm).setD (x.tm % 4294967296)) x.clo w' := by
  have cb := h.t.cell 21 s.bus rfl
  have hm := m_Clock bb
  have hS := clock_any w bb x h.b (by obtain ⟨q1, q2, q3, q4, q5⟩ := hx; refine ⟨?_, ?_, ?_, ?_, ?_⟩ <;> omega) ht
  have hO := fun w' (hv : Bo w bb x x.clo w') => h.bo hv (fun k => Iff.rfl)
  have hs := fun w (h : IsT w B s) => h.set 36 (.bool true) { s with r := { s.r with rd := true } } rfl
  have hs2 := fun w (h : IsT w B { s with r := { s.r with rd := true } }) => h.set 37 (.int .u64 x.tm) (s.clkd x.tm) rfl
  have hX := fun w (h : IsT w B (s.clkd x.tm)) => h.cell 37 (.int .u64 x.tm) rfl
  have hD := fun w h => set_any w B (s.clkd x.tm) h ⟨ho.d, ho.a, ho.b, ho.r⟩ (x.tm % 4294967296)
  have hb1 : ((s.clkd x.tm).setD (x.tm % 4294967296)).bus = s.bus := (setD_g _ _).2.2.2.2.2
  rw [h.bus] at cb
  unfold busV at cb
  clear h
  generalize (s.clkd x.tm).setD (x.tm % 4294967296) = s9 at *
  generalize s.clkd x.tm = s8 at *
  generalize ({ s with r := { s.r with rd := true } } : St) = s7 at *
  generalize x.clo = y at *
  generalize x.tm = tm at *
  go_enter Tryz.func67, Tryz.ntmps67
  go_wp2_with (first
    | (go_at_call 33; refine hS.mono ?_; rintro e w3 ⟨rfl, b3⟩; obtain ⟨v3, o3, k3, l3⟩ := hO _ b3; have a1 := o3.t.cell 36 _ rfl; have b1 := o3.t.fr 36; obtain ⟨q1, j1⟩ := hs _ o3.t; have a2 := q1.cell 37 _ rfl; have b2 := q1.fr 37; obtain ⟨q2, j2⟩ := hs2 _ q1; have a4 := hX _ q2; have hD4 := hD _ q2; have HS : Hid (Chg w3 _ (fun k => k = B)) := Chg.trans j1 j2 (fun _ _ e => e); clear q1 q2 j1 j2)
    | (go_at_call 80; refine hD4.mono ?_; rintro e w5 ⟨rfl, i5, k5⟩))
  go_end0
  exact ⟨rfl, Od.trans k3 l3 o3 i5 (Chg.trans HS.out k5 (fun _ _ e => e)) hb1⟩
end Go.Proofs.YtghiffpolacmiabGreatDoor
namespace Go.Proofs.YtghiffpolacmiabGreatDoor
open Go.ChangeShapes Go.WideShapes Go.ChangeAt Go.RowKit
set_option linter.unusedVariables false

theorem int_off (w : World) (B : Nat) (s : St) (h : IsT w B s) (hq : s.g.on = false ∨ s.g.hd = true) :
    Calls Tryz.prog 11 #[.pointer (some ⟨B, 0, none⟩)] w fun e w' => e = .returned (.bool false) ∧ w' = w := by
  have c1 := h.cell 19 (.bool s.g.on) rfl
  have c2 := h.cell 20 (.bool s.g.hd) rfl
  cases ho : s.g.on
  · rw [ho] at c1
    go_enter Tryz.func11, Tryz.ntmps11
    go_wp2
    go_ret
    exact ⟨rfl, rfl⟩
  · have hd : s.g.hd = true := by rcases hq with h | h; rw [ho] at h; cases h; exact h
    rw [ho] at c1
    rw [hd] at c2
    go_enter Tryz.func11, Tryz.ntmps11
    go_wp2
    go_ret
    exact ⟨rfl, rfl⟩
theorem Kp.od {w w' : World} {B bb : Nat} {s : St} {x : Bd} (h : On w B bb s x) (k : Kp w w') : Od w B bb x s x w' := ⟨x.lv, h.kp k, Kp.any k, .inl rfl⟩
set_option maxRecDepth 100000 in
theorem int_none (w : World) (B bb : Nat) (s : St) (x : Bd) (h : On w B bb s x) (hx : x.le 9999) (ho : s.g.on = true) (hd : s.g.hd = false) (hi : x.irq = false) :
    Calls Tryz.prog 11 #[.pointer (some ⟨B, 0, none⟩)] w fun e w' => e = .returned (.bool false) ∧ Od w B bb x s x.irqd w' := by
  have c1 := h.t.cell 19 (.bool s.g.on) rfl
  have c2 := h.t.cell 20 (.bool s.g.hd) rfl
  rw [ho] at c1
  rw [hd] at c2
  have cb := h.t.cell 21 s.bus rfl
  have hm := m_Irq bb
  have hS := irq_any w bb x h.b (by obtain ⟨q1, q2, q3, q4, q5⟩ := hx; refine ⟨?_, ?_, ?_, ?_, ?_⟩ <;> omega)
  rw [hi] at hS
  have hO := fun w' (hv : Bo w bb x x.irqd w') => h.bo hv (fun k => by unfold Bd.irqd; split <;> exact Iff.rfl)
  rw [h.bus] at cb
  unfold busV at cb
  clear h
  generalize x.irqd = y at *
  go_enter Tryz.func11, Tryz.ntmps11
  go_wp2_with (go_at_call 13; refine hS.mono ?_; rintro e w3 ⟨rfl, b3⟩; obtain ⟨v3, o3, k3, l3⟩ := hO _ b3)
  go_ret
  exact ⟨rfl, v3, o3, Chg.mono k3 (fun _ _ e => .inr e), l3⟩
/-- The result is written whole. -/
theorem IsT.res {w : World} {B : Nat} {s : St} (h : IsT w B s) (r : Rs) : (storeVar 40 ⟨B, 28, none⟩ (.agg (rsc r).toArray)).run Tryz.prog w = .ok () (w.setRow B (stc { s with r := r }).toArray) ∧ IsT (w.setRow B (stc { s with r := r }).toArray) B { s with r := r } ∧ Chg w (w.setRow B (stc { s with r := r }).toArray) (fun k => k = B) := by
  have h1 := run_storeVar_row (P := Tryz.prog) w B 28 40 (rsc r).toArray (stc s).toArray 54 h (by simp [stc, rgc, rsc]) (by kernel_rfl) (by simp [rsc, Value.oneCell'])
  refine ⟨?_, setRow_heap w B _ _ 54 (0, 0) h, Chg.setRow (S := fun k => k = B) (Chg.refl w _) (.inl rfl) _⟩
  rw [h1]
  rfl
def Rs.irq (n : Int) : Rs := ⟨6, 4, 0, 0, 0, n, false, 0, false, 0⟩
def Rg.taken (g : Rg) (n : Int) : Rg := ⟨upR g.R 14 (n % 4294967296), g.vec, g.vec, g.pc, g.on, true⟩
theorem build38 (w : World) (n : Int) : (Instr.build 40 #[(0, .int .i64 6), (1, .int .i64 4), (5, .int .i64 n)]).run Tryz.prog w = .ok (.agg (rsc (Rs.irq n)).toArray) w := by kernel_rfl
set_option maxRecDepth 100000 in
set_option maxHeartbeats 4000000 in
theorem int_yes (w : World) (B bb : Nat) (s : St) (x : Bd) (h : On w B bb s x) (hx : x.le 9999) (ho : s.g.on = true) (hd : s.g.hd = false) (hi : x.irq = true) :
    Calls Tryz.prog 11 #[.pointer (some ⟨B, 0, none⟩)] w fun e w' => e = .returned (.bool true) ∧ Od w B bb x { s with g := s.g.taken x.ln, r := Rs.irq x.ln } x.irqd w' := by
  have c1 := h.t.cell 19 (.bool s.g.on) rfl
  have c2 := h.t.cell 20 (.bool s.g.hd) rfl
  rw [ho] at c1
  rw [hd] at c2
  have cb := h.t.cell 21 s.bus rfl
  have hm := m_Irq bb
  have hS := irq_any w bb x h.b (by obtain ⟨q1, q2, q3, q4, q5⟩ := hx; refine ⟨?_, ?_, ?_, ?_, ?_⟩ <;> omega)
  rw [hi] at hS
  rw [if_pos rfl] at hS
  have hO := fun w' (hv : Bo w bb x x.irqd w') => h.bo hv (fun k => by unfold Bd.irqd; split <;> exact Iff.rfl)
  rw [h.bus] at cb
  unfold busV at cb
  have hb1 : ({ s with g := s.g.taken x.ln, r := Rs.irq x.ln } : St).bus = s.bus := rfl
  have hst := fun w (h : IsT w B s) => (h.kp (Kp.refl w).drew)
  have p1 := fun w (h : IsT w B s) => h.set 18 (.int .u32 s.g.pc) { s with g := { s.g with back := s.g.pc } } rfl
  have p2 := fun w (h : IsT w B { s with g := { s.g with back := s.g.pc } }) => h.set 16 (.int .u32 s.g.vec) { s with g := { s.g with back := s.g.pc, pc := s.g.vec } } rfl
  have p3 := fun w (h : IsT w B { s with g := { s.g with back := s.g.pc, pc := s.g.vec } }) => h.set 20 (.bool true) { s with g := { s.g with back := s.g.pc, pc := s.g.vec, hd := true } } rfl
  have p4 := fun w (h : IsT w B { s with g := { s.g with back := s.g.pc, pc := s.g.vec, hd := true } }) => h.set 14 (.int .u32 (x.ln % 4294967296)) { s with g := s.g.taken x.ln } rfl
  have p5 := fun w (h : IsT w B { s with g := s.g.taken x.ln }) => h.res (Rs.irq x.ln)
  have g1 := fun w (h : IsT w B s) => h.cell 16 (.int .u32 s.g.pc) rfl
  have g2 := fun w (h : IsT w B s) => h.cell 17 (.int .u32 s.g.vec) rfl
  have hbu := fun w => build38 w x.ln
  clear h
  generalize x.irqd = y at *
  generalize x.ln = ln at *
  generalize s.g.pc = pc at *
  generalize s.g.vec = vec at *
  go_enter Tryz.func11, Tryz.ntmps11
  go_upto_region 6 with (go_at_call 13; refine hS.mono ?_; rintro e w3 ⟨rfl, b3⟩; obtain ⟨v3, o3, k3, l3⟩ := hO _ b3)
  have t3 := hst _ o3.t
  have a1 := g1 _ t3
  have a2 := g2 _ t3
  have d1 := t3.cell 18 _ rfl
  have f1 := t3.fr 18
  have f2 := t3.fr 16
  obtain ⟨q1, j1⟩ := p1 _ t3
  obtain ⟨q2, j2⟩ := p2 _ q1
  have a1' := g1 _ o3.t
  have a2' := g2 _ o3.t
  have d1' := o3.t.cell 18 _ rfl
  have f1' := o3.t.fr 18
  have f2' := o3.t.fr 16
  have T2 : Hid (IsT _ B _ ∧ Chg w3 _ (fun k => k = B)) := ⟨q2, Chg.trans (Chg.trans ((Chg.refl w3 (fun k => k = B)).drew) j1 (fun _ _ e => e)) j2 (fun _ _ e => e)⟩
  clear q1 q2 j1 j2 t3
  go_region
  obtain ⟨W, hW⟩ : ∃ W, W = ((w3.setCell ⟨B, 18, none⟩ (.int .u32 pc)).setCell ⟨B, 16, none⟩ (.int .u32 vec)).drew := ⟨_, rfl⟩
  rw [← hW]
  have q2 : IsT W B { s with g := { s.g with back := pc, pc := vec } } := by rw [hW]; exact T2.out.1
  have j2 : Chg w3 W (fun k => k = B) := by rw [hW]; exact T2.out.2
  clear T2 hW a1 a2 d1 f1 f2 a1' a2' d1' f1' f2'
  have d3 := q2.cell 20 _ rfl
  have f3 := q2.fr 20
  obtain ⟨q3, j3⟩ := p3 _ q2
  have d4 := q3.cell 14 _ rfl
  have f4 := q3.fr 14
  obtain ⟨q4, j4⟩ := p4 _ q3
  obtain ⟨hst5, q5, j5⟩ := p5 _ q4
  have HT : Hid (IsT _ B _ ∧ Chg w3 _ (fun k => k = B)) := ⟨q5, Chg.trans (Chg.trans (Chg.trans j2 j3 (fun _ _ e => e)) j4 (fun _ _ e => e)) j5 (fun _ _ e => e)⟩
  clear q2 q3 q4 q5 j2 j3 j4 j5 p1 p2 p3 p4 p5 g1 g2
  go_wp2_with (first
    | (refine wpList_build_run rfl 40 _ rfl _ rfl _ (hbu _) ?_)
    | (refine wpList_store_row rfl 40 (.tmp 61) (.tmp 59) rfl B 28 (rsc (Rs.irq ln)).toArray rfl rfl _ hst5 ?_))
  go_ret
  exact ⟨rfl, Od.trans k3 l3 o3 HT.out.1 HT.out.2 rfl⟩
end Go.Proofs.YtghiffpolacmiabGreatDoor
