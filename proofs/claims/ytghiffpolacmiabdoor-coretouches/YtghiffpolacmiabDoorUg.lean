import Derived.Test.YtghiffpolacmiabDoorUf
namespace Go.Proofs.YtghiffpolacmiabDoor
open Go.ChangeShapes Go.WideShapes Go.ChangeAt Go.RowKit
set_option linter.unusedVariables false

def Bd.lvTo (x : Bd) (v : Value) : Bd := { x with lv := v }
def Bd.logd (x : Bd) (e : Lg) : Bd := { x with lg := x.lg ++ [e] }
/-- What a call leaves of the bus. -/
def Bo (w : World) (bb : Nat) (x y : Bd) (w' : World) : Prop :=
  ∃ v', IsB w' bb (y.lvTo v') ∧ Chg w w' (x.own bb) ∧ (v'.ownBlock = x.lv.ownBlock ∨ ∃ k, v'.ownBlock = some k ∧ w.heap.size ≤ k)
def Bd.fet (x : Bd) (pc : Int) : Bd := { (x.logd ⟨102, pc, 0, 0⟩).paid with iw := if x.ws = [] then x.iw else x.iw + 1 }
def Bd.lod (x : Bd) (a n : Int) : Bd := { (x.logd ⟨108, a, n, 0⟩).paid with iv := if x.vs = [] then x.iv else x.iv + 1 }
def Bd.sto (x : Bd) (a n v : Int) : Bd := (x.logd ⟨115, a, n, v⟩).paid
def Bd.clo (x : Bd) : Bd := { x.logd ⟨99, 0, 0, 0⟩ with tm := (x.tm + 3) % 18446744073709551616 }
def Bd.irq (x : Bd) : Bool := !(decide (x.ln < 0) && !x.od)
def Bd.irqd (x : Bd) : Bd := if x.irq then { x.logd ⟨105, 0, 0, 0⟩ with ln := -1, od := false } else x.logd ⟨105, 0, 0, 0⟩

set_option maxRecDepth 100000 in
theorem store_any (w : World) (bb : Nat) (x : Bd) (h : IsB w bb x) (hx : x.le 99999) (a n v : Int) :
    Calls Tryd.prog 107 #[.pointer (some ⟨bb, 0, none⟩), .int .u32 a, .int .i64 n, .int .u32 v] w fun e w' => e = .returned (.tuple #[.int .i64 (nxt x.cy x.ic), .int .i64 (nxt x.fa x.jf)]) ∧ Bo w bb x (x.sto a n v) w' := by
  have c7 := h.cell 7 x.lv rfl
  obtain ⟨v', wa, hr, hbx, i1, k1, hL, gv, cv, hv⟩ := h.log ⟨115, a, n, v⟩ (by have := hx.2.2.2.2; omega)
  have d7 : wa.cell? ⟨bb, 7, none⟩ = some x.lv := by rw [(cells_at hbx 7).1]; rfl
  have f7 := (cells_at hbx 7).2
  have HH : Hid (Chg w (wa.setCell ⟨bb, 7, none⟩ v') (x.own bb) ∧ (v'.ownBlock = x.lv.ownBlock ∨ ∃ k, v'.ownBlock = some k ∧ w.heap.size ≤ k)) := ⟨k1, hL⟩
  have hC := cost_any _ bb _ i1 (by obtain ⟨q1, q2, q3, q4, q5⟩ := hx; refine ⟨?_, ?_, ?_, ?_, ?_⟩ <;> simp <;> omega)
  have hq : ({ x with lv := v', lg := x.lg ++ [⟨115, a, n, v⟩] } : Bd).paid = (x.sto a n v).lvTo v' := rfl
  rw [hq] at hC
  clear hq hL k1 i1 hbx h
  subst hv
  generalize x.lg.length + 1 = nl at *
  generalize x.lv = lv at c7 d7 hr
  go_enter Tryd.func107, Tryd.ntmps107
  go_wp2_with (first
    | (at_builtin; refine wpList_append_run _ rfl (.tmp 14) (.tmp 19) 50 50 rfl _ _ _ wa rfl rfl hr ?_)
    | (go_at_call 108; refine hC.mono ?_; rintro e w2 ⟨rfl, i2, k2⟩))
  go_ret2
  exact ⟨rfl, _, i2, Chg.trans HH.out.1 k2 (fun i _ e => .inl e), HH.out.2⟩
set_option maxRecDepth 100000 in
theorem clock_any (w : World) (bb : Nat) (x : Bd) (h : IsB w bb x) (hx : x.le 99999) (ht : 0 ≤ x.tm ∧ x.tm < 18446744073709551616) :
    Calls Tryd.prog 103 #[.pointer (some ⟨bb, 0, none⟩)] w fun e w' => e = .returned (.int .u64 x.tm) ∧ Bo w bb x x.clo w' := by
  have c7 := h.cell 7 x.lv rfl
  obtain ⟨v', wa, hr, hbx, i1, k1, hL, gv, cv, hv⟩ := h.log ⟨99, 0, 0, 0⟩ (by have := hx.2.2.2.2; omega)
  have d7 : wa.cell? ⟨bb, 7, none⟩ = some x.lv := by rw [(cells_at hbx 7).1]; rfl
  have f7 := (cells_at hbx 7).2
  have HH : Hid (Chg w (wa.setCell ⟨bb, 7, none⟩ v') (x.own bb) ∧ (v'.ownBlock = x.lv.ownBlock ∨ ∃ k, v'.ownBlock = some k ∧ w.heap.size ≤ k)) := ⟨k1, hL⟩
  have c4 := i1.cell 4 (.int .u64 x.tm) rfl
  have f4 := i1.fr 4
  obtain ⟨i2, k2⟩ := i1.set 4 (.int .u64 ((x.tm + 3) % 18446744073709551616)) (x.clo.lvTo v') rfl rfl
  have HK : Hid (IsB _ bb (x.clo.lvTo v') ∧ Chg _ _ (fun k => k = bb)) := ⟨i2, k2⟩
  have et : ((x.tm + 3) % 18446744073709551616 - 3) % 18446744073709551616 = x.tm := by omega
  clear hL k1 i1 hbx h i2 k2
  subst hv
  generalize x.lg.length + 1 = nl at *
  generalize x.lv = lv at c7 d7 hr
  generalize x.tm = tm at *
  go_enter Tryd.func103, Tryd.ntmps103
  go_wp2_with (at_builtin; refine wpList_append_run _ rfl (.tmp 7) (.tmp 9) 50 50 rfl _ _ _ wa rfl rfl hr ?_)
  go_ret
  exact ⟨ret_int (k := .u64) et, _, HK.out.1, Chg.trans HH.out.1 HK.out.2 (fun i _ e => .inl e), HH.out.2⟩
set_option maxRecDepth 100000 in
theorem irq_any (w : World) (bb : Nat) (x : Bd) (h : IsB w bb x) (hx : x.le 99999) :
    Calls Tryd.prog 105 #[.pointer (some ⟨bb, 0, none⟩)] w fun e w' => e = .returned (.tuple #[.int .i64 (if x.irq then x.ln else 0), .bool x.irq]) ∧ Bo w bb x x.irqd w' := by
  have c7 := h.cell 7 x.lv rfl
  obtain ⟨v', wa, hr, hbx, i1, k1, hL, gv, cv, hv⟩ := h.log ⟨105, 0, 0, 0⟩ (by have := hx.2.2.2.2; omega)
  have d7 : wa.cell? ⟨bb, 7, none⟩ = some x.lv := by rw [(cells_at hbx 7).1]; rfl
  have f7 := (cells_at hbx 7).2
  have HH : Hid (Chg w (wa.setCell ⟨bb, 7, none⟩ v') (x.own bb) ∧ (v'.ownBlock = x.lv.ownBlock ∨ ∃ k, v'.ownBlock = some k ∧ w.heap.size ≤ k)) := ⟨k1, hL⟩
  have c5 := i1.cell 5 (.int .i64 x.ln) rfl
  have c6 := i1.cell 6 (.bool x.od) rfl
  have f5 := i1.fr 5
  have f6 := i1.fr 6
  have i1' : IsB (wa.setCell ⟨bb, 7, none⟩ v') bb ((x.logd ⟨105, 0, 0, 0⟩).lvTo v') := i1
  obtain ⟨i2, k2⟩ := i1.set 5 (.int .i64 (-1)) (({ x.logd ⟨105, 0, 0, 0⟩ with ln := -1 } : Bd).lvTo v') rfl rfl
  have g6 := i2.cell 6 (.bool x.od) rfl
  have e6 := i2.fr 6
  obtain ⟨i3, k3⟩ := i2.set 6 (.bool false) (({ x.logd ⟨105, 0, 0, 0⟩ with ln := -1, od := false } : Bd).lvTo v') rfl rfl
  have HK : Hid (IsB _ bb (({ x.logd ⟨105, 0, 0, 0⟩ with ln := -1, od := false } : Bd).lvTo v') ∧ Chg _ _ (fun k => k = bb)) := ⟨i3, Chg.trans k2 k3 (fun _ _ e => e)⟩
  have H0 : Hid (IsB (wa.setCell ⟨bb, 7, none⟩ v') bb ((x.logd ⟨105, 0, 0, 0⟩).lvTo v')) := i1
  have eq1 : x.irq = !(decide (x.ln < 0) && !x.od) := rfl
  have eq2 : x.irqd = if x.irq then { x.logd ⟨105, 0, 0, 0⟩ with ln := -1, od := false } else x.logd ⟨105, 0, 0, 0⟩ := rfl
  clear hL k1 i1 hbx h i2 k2 i3 k3 i1'
  subst hv
  generalize x.lg.length + 1 = nl at *
  generalize x.lv = lv at c7 d7 hr
  rw [eq2]
  clear eq2
  generalize ({ x.logd ⟨105, 0, 0, 0⟩ with ln := -1, od := false } : Bd) = y1 at *
  generalize x.logd ⟨105, 0, 0, 0⟩ = y0 at *
  by_cases hl : x.ln < 0
  · cases ho : x.od
    · rw [show x.irq = false by rw [eq1, ho, decide_eq_true hl]; rfl]
      rw [ho] at c6
      generalize x.ln = ln at *
      go_enter Tryd.func105, Tryd.ntmps105
      go_wp2_with (at_builtin; refine wpList_append_run _ rfl (.tmp 9) (.tmp 11) 50 50 rfl _ _ _ wa rfl rfl hr ?_)
      go_ret2
      exact ⟨rfl, _, H0.out, HH.out⟩
    · rw [show x.irq = true by rw [eq1, ho, decide_eq_true hl]; rfl]
      rw [ho] at c6 g6
      generalize x.ln = ln at *
      go_enter Tryd.func105, Tryd.ntmps105
      go_wp2_with (at_builtin; refine wpList_append_run _ rfl (.tmp 9) (.tmp 11) 50 50 rfl _ _ _ wa rfl rfl hr ?_)
      go_ret2
      exact ⟨rfl, _, HK.out.1, Chg.trans HH.out.1 HK.out.2 (fun i _ e => .inl e), HH.out.2⟩
  · rw [show x.irq = true by rw [eq1, decide_eq_false hl]; rfl]
    generalize x.ln = ln at *
    generalize x.od = od at *
    go_enter Tryd.func105, Tryd.ntmps105
    go_wp2_with (at_builtin; refine wpList_append_run _ rfl (.tmp 9) (.tmp 11) 50 50 rfl _ _ _ wa rfl rfl hr ?_)
    go_ret2
    exact ⟨rfl, _, HK.out.1, Chg.trans HH.out.1 HK.out.2 (fun i _ e => .inl e), HH.out.2⟩
end Go.Proofs.YtghiffpolacmiabDoor
