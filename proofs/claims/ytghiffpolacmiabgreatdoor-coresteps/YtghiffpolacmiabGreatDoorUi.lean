import Derived.Test.YtghiffpolacmiabGreatDoorUf
namespace Go.Proofs.YtghiffpolacmiabGreatDoor
open Go.ChangeShapes Go.WideShapes Go.ChangeAt Go.RowKit
set_option linter.unusedVariables false

def Bd.lvTo (x : Bd) (v : Value) : Bd := { x with lv := v }
def Bd.logd (x : Bd) (e : Lg) : Bd := { x with lg := x.lg ++ [e] }
/-- What a call leaves of the bus. -/
def Bo (w : World) (bb : Nat) (x y : Bd) (w' : World) : Prop :=
  ∃ v', IsB w' bb (y.lvTo v') ∧ Chg w w' (x.own bb) ∧ (v'.ownBlock = x.lv.ownBlock ∨ ∃ k, v'.ownBlock = some k ∧ w.heap.size ≤ k)
def Bd.fet (x : Bd) (pc : Int) : Bd := { (x.logd ⟨102, pc, 0, 0⟩).paid with iw := if x.ws = [] then x.iw else x.iw + 1 }
def Bd.lod (x : Bd) (a n : Int) : Bd := { (x.logd ⟨108, a, n, 0⟩).paid with iv := if x.vs = [] then x.iv else x.iv + 1 }
def Bd.sto (x : Bd) (a n v : Int) : Bd := (x.logd ⟨115, a, n, v⟩).paid
def Bd.clo (x : Bd) : Bd := { x.logd ⟨99, 0, 0, 0⟩ with tm := (x.tm + 3) % 18446744073709551616 }
def Bd.irq (x : Bd) : Bool := !(decide (x.ln < 0) && !x.od)
def Bd.irqd (x : Bd) : Bd := if x.irq then { x.logd ⟨105, 0, 0, 0⟩ with ln := -1, od := false } else x.logd ⟨105, 0, 0, 0⟩

set_option maxRecDepth 100000 in
theorem store_any (w : World) (bb : Nat) (x : Bd) (h : IsB w bb x) (hx : x.le 99999) (a n v : Int) :
    Calls Tryz.prog 32 #[.pointer (some ⟨bb, 0, none⟩), .int .u32 a, .int .i64 n, .int .u32 v] w fun e w' => e = .returned (.tuple #[.int .i64 (nxt x.cy x.ic), .int .i64 (nxt x.fa x.jf)]) ∧ Bo w bb x (x.sto a n v) w' := by
  have c7 := h.cell 7 x.lv rfl
  obtain ⟨v', wa, hr, hbx, i1, k1, hL, gv, cv, hv⟩ := h.log ⟨115, a, n, v⟩ (by have := hx.2.2.2.2; omega)
  have d7 : wa.cell? ⟨bb, 7, none⟩ = some x.lv := by rw [(cells_at hbx 7).1]; rfl
  have f7 := (cells_at hbx 7).2
  have HH : Hid (Chg w (wa.setCell ⟨bb, 7, none⟩ v') (x.own bb) ∧ (v'.ownBlock = x.lv.ownBlock ∨ ∃ k, v'.ownBlock = some k ∧ w.heap.size ≤ k)) := ⟨k1, hL⟩
  have hC := cost_any _ bb _ i1 (by obtain ⟨q1, q2, q3, q4, q5⟩ := hx; refine ⟨?_, ?_, ?_, ?_, ?_⟩ <;> simp <;> omega)
  have hq : ({ x with lv := v', lg := x.lg ++ [⟨115, a, n, v⟩] } : Bd).paid = (x.sto a n v).lvTo v' := rfl
  rw [hq] at hC
  clear hq hL k1 i1 hbx h
  subst hv
  generalize x.lg.length + 1 = nl at *
  generalize x.lv = lv at c7 d7 hr
  go_enter Tryz.func32, Tryz.ntmps32
  go_wp2_with (first
    | (at_builtin; refine wpList_append_run _ rfl (.tmp 14) (.tmp 19) 34 34 rfl _ _ _ wa rfl rfl hr ?_)
    | (go_at_call 25; refine hC.mono ?_; rintro e w2 ⟨rfl, i2, k2⟩))
  go_ret2
  exact ⟨rfl, _, i2, Chg.trans HH.out.1 k2 (fun i _ e => .inl e), HH.out.2⟩
set_option maxRecDepth 100000 in
theorem clock_any (w : World) (bb : Nat) (x : Bd) (h : IsB w bb x) (hx : x.le 99999) (ht : 0 ≤ x.tm ∧ x.tm < 18446744073709551616) :
    Calls Tryz.prog 33 #[.pointer (some ⟨bb, 0, none⟩)] w fun e w' => e = .returned (.int .u64 x.tm) ∧ Bo w bb x x.clo w' := by
  have c7 := h.cell 7 x.lv rfl
  obtain ⟨v', wa, hr, hbx, i1, k1, hL, gv, cv, hv⟩ := h.log ⟨99, 0, 0, 0⟩ (by have := hx.2.2.2.2; omega)
  have d7 : wa.cell? ⟨bb, 7, none⟩ = some x.lv := by rw [(cells_at hbx 7).1]; rfl
  have f7 := (cells_at hbx 7).2
  have HH : Hid (Chg w (wa.setCell ⟨bb, 7, none⟩ v') (x.own bb) ∧ (v'.ownBlock = x.lv.ownBlock ∨ ∃ k, v'.ownBlock = some k ∧ w.heap.size ≤ k)) := ⟨k1, hL⟩
  have c4 := i1.cell 4 (.int .u64 x.tm) rfl
  have f4 := i1.fr 4
  obtain ⟨i2, k2⟩ := i1.set 4 (.int .u64 ((x.tm + 3) % 18446744073709551616)) (x.clo.lvTo v') rfl rfl
  have HK : Hid (IsB _ bb (x.clo.lvTo v') ∧ Chg _ _ (fun k => k = bb)) := ⟨i2, k2⟩
  have et : ((x.tm + 3) % 18446744073709551616 - 3) % 18446744073709551616 = x.tm := by omega
  clear hL k1 i1 hbx h i2 k2
  subst hv
  generalize x.lg.length + 1 = nl at *
  generalize x.lv = lv at c7 d7 hr
  generalize x.tm = tm at *
  go_enter Tryz.func33, Tryz.ntmps33
  go_wp2_with (at_builtin; refine wpList_append_run _ rfl (.tmp 7) (.tmp 9) 34 34 rfl _ _ _ wa rfl rfl hr ?_)
  go_ret
  exact ⟨ret_int (k := .u64) et, _, HK.out.1, Chg.trans HH.out.1 HK.out.2 (fun i _ e => .inl e), HH.out.2⟩
set_option maxRecDepth 100000 in
theorem irq_any (w : World) (bb : Nat) (x : Bd) (h : IsB w bb x) (hx : x.le 99999) :
    Calls Tryz.prog 13 #[.pointer (some ⟨bb, 0, none⟩)] w fun e w' => e = .returned (.tuple #[.int .i64 (if x.irq then x.ln else 0), .bool x.irq]) ∧ Bo w bb x x.irqd w' := by
  have c7 := h.cell 7 x.lv rfl
  obtain ⟨v', wa, hr, hbx, i1, k1, hL, gv, cv, hv⟩ := h.log ⟨105, 0, 0, 0⟩ (by have := hx.2.2.2.2; omega)
  have d7 : wa.cell? ⟨bb, 7, none⟩ = some x.lv := by rw [(cells_at hbx 7).1]; rfl
  have f7 := (cells_at hbx 7).2
  have HH : Hid (Chg w (wa.setCell ⟨bb, 7, none⟩ v') (x.own bb) ∧ (v'.ownBlock = x.lv.ownBlock ∨ ∃ k, v'.ownBlock = some k ∧ w.heap.size ≤ k)) := ⟨k1, hL⟩
  have c5 := i1.cell 5 (.int .i64 x.ln) rfl
  have c6 := i1.cell 6 (.bool x.od) rfl
  have f5 := i1.fr 5
  have f6 := i1.fr 6
  have i1' : IsB (wa.setCell ⟨bb, 7, none⟩ v') bb ((x.logd ⟨105, 0, 0, 0⟩).lvTo v') := i1
  obtain ⟨i2, k2⟩ := i1.set 5 (.int .i64 (-1)) (({ x.logd ⟨105, 0, 0, 0⟩ with ln := -1 } : Bd).lvTo v') rfl rfl
  have g6 := i2.cell 6 (.bool x.od) rfl
  have e6 := i2.fr 6
  obtain ⟨i3, k3⟩ := i2.set 6 (.bool false) (({ x.logd ⟨105, 0, 0, 0⟩ with ln := -1, od := false } : Bd).lvTo v') rfl rfl
  have HK : Hid (IsB _ bb (({ x.logd ⟨105, 0, 0, 0⟩ with ln := -1, od := false } : Bd).lvTo v') ∧ Chg _ _ (fun k => k = bb)) := ⟨i3, Chg.trans k2 k3 (fun _ _ e => e)⟩
  have H0 : Hid (IsB (wa.setCell ⟨bb, 7, none⟩ v') bb ((x.logd ⟨105, 0, 0, 0⟩).lvTo v')) := i1
  have eq1 : x.irq = !(decide (x.ln < 0) && !x.od) := rfl
  have eq2 : x.irqd = if x.irq then { x.logd ⟨105, 0, 0, 0⟩ with ln := -1, od := false } else x.logd ⟨105, 0, 0, 0⟩ := rfl
  clear hL k1 i1 hbx h i2 k2 i3 k3 i1'
  subst hv
  generalize x.lg.length + 1 = nl at *
  generalize x.lv = lv at c7 d7 hr
  rw [eq2]
  clear eq2
  generalize ({ x.logd ⟨105, 0, 0, 0⟩ with ln := -1, od := false } : Bd) = y1 at *
  generalize x.logd ⟨105, 0, 0, 0⟩ = y0 at *
  by_cases hl : x.ln < 0
  · cases ho : x.od
    · rw [show x.irq = false by rw [eq1, ho, decide_eq_true hl]; rfl]
      rw [ho] at c6
      generalize x.ln = ln at *
      go_enter Tryz.func13, Tryz.ntmps13
      go_wp2_with (at_builtin; refine wpList_append_run _ rfl (.tmp 9) (.tmp 11) 34 34 rfl _ _ _ wa rfl rfl hr ?_)
      go_ret2
      exact ⟨rfl, _, H0.out, HH.out⟩
    · rw [show x.irq = true by rw [eq1, ho, decide_eq_true hl]; rfl]
      rw [ho] at c6 g6
      generalize x.ln = ln at *
      go_enter Tryz.func13, Tryz.ntmps13
      go_wp2_with (at_builtin; refine wpList_append_run _ rfl (.tmp 9) (.tmp 11) 34 34 rfl _ _ _ wa rfl rfl hr ?_)
      go_ret2
      exact ⟨rfl, _, HK.out.1, Chg.trans HH.out.1 HK.out.2 (fun i _ e => .inl e), HH.out.2⟩
  · rw [show x.irq = true by rw [eq1, decide_eq_false hl]; rfl]
    generalize x.ln = ln at *
    generalize x.od = od at *
    go_enter Tryz.func13, Tryz.ntmps13
    go_wp2_with (at_builtin; refine wpList_append_run _ rfl (.tmp 9) (.tmp 11) 34 34 rfl _ _ _ wa rfl rfl hr ?_)
    go_ret2
    exact ⟨rfl, _, HK.out.1, Chg.trans HH.out.1 HK.out.2 (fun i _ e => .inl e), HH.out.2⟩
end Go.Proofs.YtghiffpolacmiabGreatDoor
namespace Go.Proofs.YtghiffpolacmiabGreatDoor
open Go.ChangeShapes Go.WideShapes Go.ChangeAt Go.RowKit
set_option linter.unusedVariables false

set_option maxRecDepth 100000 in
theorem fetch_any (w : World) (bb : Nat) (x : Bd) (h : IsB w bb x) (hx : x.le 99999) (pc : Int) :
    Calls Tryz.prog 14 #[.pointer (some ⟨bb, 0, none⟩), .int .u32 pc] w fun e w' => e = .returned (.tuple #[.int .u32 (nxt x.ws x.iw), .int .i64 (nxt x.cy x.ic), .int .i64 (nxt x.fa x.jf)]) ∧ Bo w bb x (x.fet pc) w' := by
  have c7 := h.cell 7 x.lv rfl
  obtain ⟨v', wa, hr, hbx, i1, k1, hL, gv, cv, hv⟩ := h.log ⟨102, pc, 0, 0⟩ (by have := hx.2.2.2.2; omega)
  have d7 : wa.cell? ⟨bb, 7, none⟩ = some x.lv := by rw [(cells_at hbx 7).1]; rfl
  have f7 := (cells_at hbx 7).2
  have HH : Hid (Chg w (wa.setCell ⟨bb, 7, none⟩ v') (x.own bb) ∧ (v'.ownBlock = x.lv.ownBlock ∨ ∃ k, v'.ownBlock = some k ∧ w.heap.size ≤ k)) := ⟨k1, hL⟩
  have hC := cost_any _ bb _ i1 (by obtain ⟨q1, q2, q3, q4, q5⟩ := hx; refine ⟨?_, ?_, ?_, ?_, ?_⟩ <;> simp <;> omega)
  have hN := fun w i m hm hb => next_same w i m hm hb
  have e10 := w1 (n := x.iw) (by have := hx.1; omega)
  have hrow := h.ws
  have eq1 : x.fet pc = { (x.logd ⟨102, pc, 0, 0⟩).paid with iw := if x.ws = [] then x.iw else x.iw + 1 } := rfl
  have hq : ({ x with lv := v', lg := x.lg ++ [⟨102, pc, 0, 0⟩] } : Bd).paid = (x.logd ⟨102, pc, 0, 0⟩).paid.lvTo v' := rfl
  rw [hq] at hC
  clear hq hL k1 i1 hbx h
  subst hv
  generalize x.lg.length + 1 = nl at *
  generalize x.lv = lv at c7 d7 hr
  obtain ⟨y, hy⟩ : ∃ y, y = (x.logd ⟨102, pc, 0, 0⟩).paid := ⟨_, rfl⟩
  have hy1 : y.ws = x.ws ∧ y.wv = x.wv ∧ y.iw = x.iw := by rw [hy]; exact ⟨rfl, rfl, rfl⟩
  rw [eq1, ← hy]
  rw [← hy] at hC
  clear eq1 hy
  obtain ⟨z1, z2, z3⟩ := hy1
  rw [← z3] at e10
  rw [← z1, ← z3]
  clear hrow
  clear z1 z2 z3
  generalize nxt x.cy x.ic = uc at *
  generalize nxt x.fa x.jf = uf at *
  by_cases hc : y.ws = []
  · rw [hc] at ⊢
    rw [if_pos rfl]
    go_enter Tryz.func14, Tryz.ntmps14
    go_wp2_with (first
      | (at_builtin; refine wpList_append_run _ rfl (.tmp 14) (.tmp 17) 34 34 rfl _ _ _ wa rfl rfl hr ?_)
      | (go_at_call 25; refine hC.mono ?_; rintro e w2 ⟨rfl, i2, k2⟩; have c0 := i2.cell 0 y.wv rfl; have hr2 := i2.ws; rw [show (y.lvTo (Value.slice (some ⟨gv, 0, none⟩) nl cv)).ws = [] from hc] at hr2; obtain ⟨a1, d1, q1⟩ := hr2.nil; rw [show (y.lvTo (Value.slice (some ⟨gv, 0, none⟩) nl cv)).wv = y.wv from rfl] at q1; rw [q1] at c0; have HI : Hid (IsB w2 bb (y.lvTo (Value.slice (some ⟨gv, 0, none⟩) nl cv))) := i2; clear i2))
    refine bodyPost_ret (v := .tuple #[.int .u32 0, .int .i64 uc, .int .i64 uf]) (by simp [results, Tryz.results14, go_sem]) rfl ?_
    exact ⟨rfl, _, HI.out, Chg.trans HH.out.1 k2 (fun i _ e => .inl e), HH.out.2⟩
  · rw [if_neg hc]
    have hs := fun w v (h : IsB w bb (y.lvTo v)) => h.set 8 (.int .i64 ((y.iw + 1 : Nat) : Int)) (({ y with iw := y.iw + 1 } : Bd).lvTo v) rfl rfl
    go_enter Tryz.func14, Tryz.ntmps14
    go_upto_region 5 with (first
      | (at_builtin; refine wpList_append_run _ rfl (.tmp 14) (.tmp 17) 34 34 rfl _ _ _ wa rfl rfl hr ?_)
      | (go_at_call 25; refine hC.mono ?_; rintro e w2 ⟨rfl, i2, k2⟩; have c0 := i2.cell 0 y.wv rfl; have c1 := i2.cell 8 (.int .i64 (y.iw : Nat)) rfl; have f1 := i2.fr 8; obtain ⟨g1, o1, d1, q1, _, p1, b1, m1, z1⟩ := i2.ws.at hc y.iw; rw [show (y.lvTo (Value.slice (some ⟨gv, 0, none⟩) nl cv)).wv = y.wv from rfl] at q1; rw [q1] at c0; have HI : Hid (∀ n, _) := fun n => hs _ _ (i2.kp ((Kp.refl w2).drewN n)); have HK : Hid (Chg _ w2 _) := k2; clear i2 k2 hC hs))
    rw [show (y.lvTo (Value.slice (some ⟨gv, 0, none⟩) nl cv)).ws = y.ws from rfl] at *
    generalize y.ws.length = l1 at *
    have m1' : ((min y.iw (l1 - 1) : Nat) : Int) < (l1 : Int) := by omega
    go_quiet (first | (go_at_call 26; exact Calls.quiet_of_same (hN _ _ _ p1 b1)))
    go_wp2
    refine bodyPost_ret (v := .tuple #[.int .u32 (nxt y.ws y.iw), .int .i64 uc, .int .i64 uf]) (by simp [results, Tryz.results14, go_sem]) rfl ?_
    exact ⟨rfl, _, (HI.out _).1, Chg.trans (Chg.trans HH.out.1 (Chg.drewN HK.out _) (fun i _ e => .inl e)) (HI.out _).2 (fun i _ e => .inl e), HH.out.2⟩
set_option maxRecDepth 100000 in
theorem load_any (w : World) (bb : Nat) (x : Bd) (h : IsB w bb x) (hx : x.le 99999) (a n : Int) :
    Calls Tryz.prog 31 #[.pointer (some ⟨bb, 0, none⟩), .int .u32 a, .int .i64 n] w fun e w' => e = .returned (.tuple #[.int .u32 (nxt x.vs x.iv), .int .i64 (nxt x.cy x.ic), .int .i64 (nxt x.fa x.jf)]) ∧ Bo w bb x (x.lod a n) w' := by
  have c7 := h.cell 7 x.lv rfl
  obtain ⟨v', wa, hr, hbx, i1, k1, hL, gv, cv, hv⟩ := h.log ⟨108, a, n, 0⟩ (by have := hx.2.2.2.2; omega)
  have d7 : wa.cell? ⟨bb, 7, none⟩ = some x.lv := by rw [(cells_at hbx 7).1]; rfl
  have f7 := (cells_at hbx 7).2
  have HH : Hid (Chg w (wa.setCell ⟨bb, 7, none⟩ v') (x.own bb) ∧ (v'.ownBlock = x.lv.ownBlock ∨ ∃ k, v'.ownBlock = some k ∧ w.heap.size ≤ k)) := ⟨k1, hL⟩
  have hC := cost_any _ bb _ i1 (by obtain ⟨q1, q2, q3, q4, q5⟩ := hx; refine ⟨?_, ?_, ?_, ?_, ?_⟩ <;> simp <;> omega)
  have hN := fun w i m hm hb => next_same w i m hm hb
  have e10 := w1 (n := x.iv) (by have := hx.2.1; omega)
  have hrow := h.vs
  have eq1 : x.lod a n = { (x.logd ⟨108, a, n, 0⟩).paid with iv := if x.vs = [] then x.iv else x.iv + 1 } := rfl
  have hq : ({ x with lv := v', lg := x.lg ++ [⟨108, a, n, 0⟩] } : Bd).paid = (x.logd ⟨108, a, n, 0⟩).paid.lvTo v' := rfl
  rw [hq] at hC
  clear hq hL k1 i1 hbx h
  subst hv
  generalize x.lg.length + 1 = nl at *
  generalize x.lv = lv at c7 d7 hr
  obtain ⟨y, hy⟩ : ∃ y, y = (x.logd ⟨108, a, n, 0⟩).paid := ⟨_, rfl⟩
  have hy1 : y.vs = x.vs ∧ y.vv = x.vv ∧ y.iv = x.iv := by rw [hy]; exact ⟨rfl, rfl, rfl⟩
  rw [eq1, ← hy]
  rw [← hy] at hC
  clear eq1 hy
  obtain ⟨z1, z2, z3⟩ := hy1
  rw [← z3] at e10
  rw [← z1, ← z3]
  clear hrow
  clear z1 z2 z3
  generalize nxt x.cy x.ic = uc at *
  generalize nxt x.fa x.jf = uf at *
  by_cases hc : y.vs = []
  · rw [hc] at ⊢
    rw [if_pos rfl]
    go_enter Tryz.func31, Tryz.ntmps31
    go_wp2_with (first
      | (at_builtin; refine wpList_append_run _ rfl (.tmp 16) (.tmp 20) 34 34 rfl _ _ _ wa rfl rfl hr ?_)
      | (go_at_call 25; refine hC.mono ?_; rintro e w2 ⟨rfl, i2, k2⟩; have c0 := i2.cell 1 y.vv rfl; have hr2 := i2.vs; rw [show (y.lvTo (Value.slice (some ⟨gv, 0, none⟩) nl cv)).vs = [] from hc] at hr2; obtain ⟨a1, d1, q1⟩ := hr2.nil; rw [show (y.lvTo (Value.slice (some ⟨gv, 0, none⟩) nl cv)).vv = y.vv from rfl] at q1; rw [q1] at c0; have HI : Hid (IsB w2 bb (y.lvTo (Value.slice (some ⟨gv, 0, none⟩) nl cv))) := i2; clear i2))
    refine bodyPost_ret (v := .tuple #[.int .u32 0, .int .i64 uc, .int .i64 uf]) (by simp [results, Tryz.results31, go_sem]) rfl ?_
    exact ⟨rfl, _, HI.out, Chg.trans HH.out.1 k2 (fun i _ e => .inl e), HH.out.2⟩
  · rw [if_neg hc]
    have hs := fun w v (h : IsB w bb (y.lvTo v)) => h.set 9 (.int .i64 ((y.iv + 1 : Nat) : Int)) (({ y with iv := y.iv + 1 } : Bd).lvTo v) rfl rfl
    go_enter Tryz.func31, Tryz.ntmps31
    go_upto_region 5 with (first
      | (at_builtin; refine wpList_append_run _ rfl (.tmp 16) (.tmp 20) 34 34 rfl _ _ _ wa rfl rfl hr ?_)
      | (go_at_call 25; refine hC.mono ?_; rintro e w2 ⟨rfl, i2, k2⟩; have c0 := i2.cell 1 y.vv rfl; have c1 := i2.cell 9 (.int .i64 (y.iv : Nat)) rfl; have f1 := i2.fr 9; obtain ⟨g1, o1, d1, q1, _, p1, b1, m1, z1⟩ := i2.vs.at hc y.iv; rw [show (y.lvTo (Value.slice (some ⟨gv, 0, none⟩) nl cv)).vv = y.vv from rfl] at q1; rw [q1] at c0; have HI : Hid (∀ n, _) := fun n => hs _ _ (i2.kp ((Kp.refl w2).drewN n)); have HK : Hid (Chg _ w2 _) := k2; clear i2 k2 hC hs))
    rw [show (y.lvTo (Value.slice (some ⟨gv, 0, none⟩) nl cv)).vs = y.vs from rfl] at *
    generalize y.vs.length = l1 at *
    have m1' : ((min y.iv (l1 - 1) : Nat) : Int) < (l1 : Int) := by omega
    go_quiet (first | (go_at_call 26; exact Calls.quiet_of_same (hN _ _ _ p1 b1)))
    go_wp2
    refine bodyPost_ret (v := .tuple #[.int .u32 (nxt y.vs y.iv), .int .i64 uc, .int .i64 uf]) (by simp [results, Tryz.results31, go_sem]) rfl ?_
    exact ⟨rfl, _, (HI.out _).1, Chg.trans (Chg.trans HH.out.1 (Chg.drewN HK.out _) (fun i _ e => .inl e)) (HI.out _).2 (fun i _ e => .inl e), HH.out.2⟩
end Go.Proofs.YtghiffpolacmiabGreatDoor
namespace Go.Proofs.YtghiffpolacmiabGreatDoor
open Go.ChangeShapes Go.WideShapes Go.ChangeAt Go.RowKit
set_option linter.unusedVariables false

def busV (bb : Nat) : Value := .iface 33 (.pointer (some ⟨bb, 0, none⟩))
/-- A step under way on a bus. -/
structure On (w : World) (B bb : Nat) (s : St) (x : Bd) : Prop where
  t : IsT w B s
  b : IsB w bb x
  bus : s.bus = busV bb
  ne : ∀ k, (x.own bb k ∨ x.row k) → k ≠ B
  g : Gt w
  B2 : 2 ≤ B
  o2 : ∀ k, x.own bb k → 2 ≤ k
/-- What a call leaves. -/
def Od (w : World) (B bb : Nat) (x : Bd) (t : St) (y : Bd) (w' : World) : Prop :=
  ∃ v', On w' B bb t (y.lvTo v') ∧ Chg w w' (fun k => k = B ∨ x.own bb k) ∧ (v'.ownBlock = x.lv.ownBlock ∨ ∃ k, v'.ownBlock = some k ∧ w.heap.size ≤ k)
theorem On.vo {w w' : World} {B bb : Nat} {s t : St} {x : Bd} {e : Ending} (h : On w B bb s x) (hv : Vo w B t e w') (hb : t.bus = s.bus) : e = .returned (.tuple #[]) ∧ Od w B bb x t x w' := by
  obtain ⟨h1, h2, h3⟩ := hv
  refine ⟨h1, x.lv, ⟨h2, h.b.chg h3 (fun k _ hk => h.ne k hk), by rw [hb]; exact h.bus, h.ne, h.g.chg h3 (by have := h.B2; omega) (by have := h.B2; omega), h.B2, h.o2⟩, Chg.mono h3 (fun i _ e => .inl e), .inl rfl⟩
theorem On.kp {w w' : World} {B bb : Nat} {s : St} {x : Bd} (h : On w B bb s x) (k : Kp w w') : On w' B bb s x :=
  ⟨h.t.kp k, h.b.kp k, h.bus, h.ne, h.g.keep k, h.B2, h.o2⟩
theorem On.st {w w' : World} {B bb : Nat} {s t : St} {x : Bd} (h : On w B bb s x) (h2 : IsT w' B t) (h3 : Chg w w' (fun k => k = B)) (hb : t.bus = s.bus) : On w' B bb t x :=
  ⟨h2, h.b.chg h3 (fun k _ hk => h.ne k hk), by rw [hb]; exact h.bus, h.ne, h.g.chg h3 (by have := h.B2; omega) (by have := h.B2; omega), h.B2, h.o2⟩
theorem On.bo {w w' : World} {B bb : Nat} {s : St} {x y : Bd} (h : On w B bb s x) (hv : Bo w bb x y w') (hr : ∀ k, y.row k ↔ x.row k) : ∃ v', On w' B bb s (y.lvTo v') ∧ Chg w w' (x.own bb) ∧ (v'.ownBlock = x.lv.ownBlock ∨ ∃ k, v'.ownBlock = some k ∧ w.heap.size ≤ k) := by
  obtain ⟨v', h1, h2, h3⟩ := hv
  have hB := hp_lt h.t
  have hs := h.b.al
  have hbb := hp_lt h.b.box
  have ho : ∀ k, (y.lvTo v').own bb k → x.own bb k ∨ w.heap.size ≤ k := fun k hk => by
    rcases hk with e | e
    · exact .inl (.inl e)
    · rcases h3 with h3 | ⟨j, h3, h4⟩
      · exact .inl (.inr (by rw [← h3]; exact e))
      · right
        have e2 : v'.ownBlock = some k := e
        rw [h3] at e2
        cases e2
        exact h4
  have h0 : ¬ x.own bb 0 := fun e => by have := h.o2 0 e; omega
  have h1' : ¬ x.own bb 1 := fun e => by have := h.o2 1 e; omega
  refine ⟨v', ⟨h.t.chg h2 (fun e => h.ne B (.inl e) rfl), h1, h.bus, fun k hk => ?_, h.g.chg h2 h0 h1', h.B2, fun k hk => ?_⟩, h2, h3⟩
  · rcases hk with hk | hk
    · rcases ho k hk with e | e
      · exact h.ne k (.inl e)
      · omega
    · exact h.ne k (.inr ((hr k).1 hk))
  · rcases ho k hk with e | e
    · exact h.o2 k e
    · have := h.B2; omega
theorem m_Clock (bb : Nat) (w : World) : (method 237 33 (.pointer (some ⟨bb, 0, none⟩)) "Clock").run Tryz.prog w = .ok (33, .pointer (some ⟨bb, 0, none⟩)) w := by kernel_rfl
theorem m_Fetch (bb : Nat) (w : World) : (method 237 33 (.pointer (some ⟨bb, 0, none⟩)) "Fetch").run Tryz.prog w = .ok (14, .pointer (some ⟨bb, 0, none⟩)) w := by kernel_rfl
theorem m_Irq (bb : Nat) (w : World) : (method 237 33 (.pointer (some ⟨bb, 0, none⟩)) "Irq").run Tryz.prog w = .ok (13, .pointer (some ⟨bb, 0, none⟩)) w := by kernel_rfl
theorem m_Load (bb : Nat) (w : World) : (method 237 33 (.pointer (some ⟨bb, 0, none⟩)) "Load").run Tryz.prog w = .ok (31, .pointer (some ⟨bb, 0, none⟩)) w := by kernel_rfl
theorem m_Store (bb : Nat) (w : World) : (method 237 33 (.pointer (some ⟨bb, 0, none⟩)) "Store").run Tryz.prog w = .ok (32, .pointer (some ⟨bb, 0, none⟩)) w := by kernel_rfl

/-- A number is stored. -/
def St.at' (s : St) : Int := (s.va + s.vn) % 4294967296
def St.more (s : St) (c : Int) : St := { s with r := { s.r with cyc := wrap64 (s.r.cyc + c) } }
def stoS (s : St) (x : Bd) : St := if nxt x.fa x.jf = 0 then s.more (nxt x.cy x.ic) else (s.more (nxt x.cy x.ic)).fault (nxt x.fa x.jf) s.at'
theorem Od.trans {w w1 w2 : World} {B bb : Nat} {s t : St} {x y : Bd} {v1 : Value} (k1 : Chg w w1 (x.own bb)) (hv : v1.ownBlock = x.lv.ownBlock ∨ ∃ k, v1.ownBlock = some k ∧ w.heap.size ≤ k) (h1 : On w1 B bb s (y.lvTo v1)) (h2 : IsT w2 B t) (k2 : Chg w1 w2 (fun k => k = B)) (hb : t.bus = s.bus) : Od w B bb x t y w2 :=
  ⟨v1, h1.st h2 k2 hb, Chg.trans (Chg.mono k1 (fun _ _ e => .inr e)) k2 (fun _ _ e => .inl e), hv⟩
set_option maxRecDepth 100000 in
theorem st_any (w : World) (B bb : Nat) (s : St) (x : Bd) (h : On w B bb s x) (ho : s.ok) (hx : x.le 9999) (n v : Int) :
    Calls Tryz.prog 93 #[.pointer (some ⟨B, 0, none⟩), .int .i64 n, .int .u32 v] w fun e w' => e = .returned (.tuple #[]) ∧ Od w B bb x (stoS s x) (x.sto s.at' n v) w' := by
  have hA := a_any w B s h.t ho
  have hN := fun w h => n_same w B s h
  have cb := fun w (h : IsT w B s) => h.cell 21 s.bus rfl
  have hm := m_Store bb
  have hS := fun w (h : IsB w bb x) => store_any w bb x h (by obtain ⟨q1, q2, q3, q4, q5⟩ := hx; refine ⟨?_, ?_, ?_, ?_, ?_⟩ <;> omega) s.at' n v
  have hO := fun w w' (h : On w B bb s x) (hv : Bo w bb x (x.sto s.at' n v) w') => h.bo hv (fun k => Iff.rfl)
  have c29 := fun w (h : IsT w B s) => h.cell 29 (.int .i64 s.r.cyc) rfl
  have hs := fun w (h : IsT w B s) => h.set 29 (.int .i64 (wrap64 (s.r.cyc + nxt x.cy x.ic))) (s.more (nxt x.cy x.ic)) rfl
  have hR := fun w (h : IsT w B (s.more (nxt x.cy x.ic))) => refuse_any w B _ h (nxt x.fa x.jf) s.at'
  have e1 : stoS s x = if nxt x.fa x.jf = 0 then s.more (nxt x.cy x.ic) else (s.more (nxt x.cy x.ic)).fault (nxt x.fa x.jf) s.at' := rfl
  have e2 : s.at' = (s.va + s.vn) % 4294967296 := rfl
  rw [h.bus] at cb
  have ra := ho.ra
  have rn := vn_r s
  have hb1 : (s.more (nxt x.cy x.ic)).bus = s.bus := rfl
  have hb2 : ((s.more (nxt x.cy x.ic)).fault (nxt x.fa x.jf) s.at').bus = s.bus := rfl
  have HO : Hid (On w B bb s x) := h
  have ht := h.t
  have hb := h.b
  unfold busV at cb
  generalize x.sto s.at' n v = y at *
  by_cases hz : nxt x.fa x.jf = 0
  · rw [if_pos hz] at e1
    rw [hz] at hS
    rw [e1]
    rw [e2] at hS
    clear e1 e2 hR hb2 h hz
    generalize s.more (nxt x.cy x.ic) = s1 at *
    generalize nxt x.cy x.ic = uc at *
    generalize s.va = va at *
    generalize s.vn = vn at *
    generalize s.r.cyc = cyc at *
    go_enter Tryz.func93, Tryz.ntmps93
    go_wp2_with (first
      | (go_at_call 81; refine hA.mono ?_; rintro e w1 ⟨rfl, k1⟩)
      | (go_at_call 86; refine (hN _ (ht.kp k1)).mono ?_; rintro e w2 ⟨rfl, k2⟩; subst k2; have cc := cb _ (ht.kp k1))
      | (go_at_call 32; refine (hS _ (hb.kp k1)).mono ?_; rintro e w3 ⟨rfl, b3⟩; obtain ⟨v3, o3, k3, l3⟩ := hO _ _ (HO.out.kp k1) b3; have cc3 := c29 _ o3.t; have f3 := o3.t.fr 29; have HS : Hid (IsT _ B s1 ∧ Chg w3 _ (fun k => k = B)) := hs _ o3.t))
    go_end0
    refine ⟨rfl, Od.trans (Chg.trans (Kp.any k1) k3 (fun _ _ e => e)) ?_ o3 HS.out.1 HS.out.2 hb1⟩
    rcases l3 with l | ⟨k, l, l2⟩
    · exact .inl l
    · exact .inr ⟨k, l, Nat.le_trans k1.size l2⟩
  · rw [if_neg hz] at e1
    rw [e1]
    have hz1 : (nxt x.fa x.jf == 0) = false := by simpa using hz
    rw [e2] at hS hR hb2 ⊢
    clear e1 e2 h hz
    generalize (s.more (nxt x.cy x.ic)).fault (nxt x.fa x.jf) ((s.va + s.vn) % 4294967296) = s2 at *
    generalize s.more (nxt x.cy x.ic) = s1 at *
    generalize nxt x.cy x.ic = uc at *
    generalize nxt x.fa x.jf = uf at *
    generalize s.va = va at *
    generalize s.vn = vn at *
    generalize s.r.cyc = cyc at *
    go_enter Tryz.func93, Tryz.ntmps93
    go_wp2_with (first
      | (go_at_call 81; refine hA.mono ?_; rintro e w1 ⟨rfl, k1⟩)
      | (go_at_call 86; refine (hN _ (ht.kp k1)).mono ?_; rintro e w2 ⟨rfl, k2⟩; subst k2; have cc := cb _ (ht.kp k1))
      | (go_at_call 32; refine (hS _ (hb.kp k1)).mono ?_; rintro e w3 ⟨rfl, b3⟩; obtain ⟨v3, o3, k3, l3⟩ := hO _ _ (HO.out.kp k1) b3; have cc3 := c29 _ o3.t; have f3 := o3.t.fr 29; have HS : Hid (IsT _ B s1 ∧ Chg w3 _ (fun k => k = B)) := hs _ o3.t)
      | (go_at_call 34; refine (hR _ HS.out.1).mono ?_; rintro e w4 ⟨rfl, i4, k4⟩))
    go_end0
    refine ⟨rfl, Od.trans (Chg.trans (Kp.any k1) k3 (fun _ _ e => e)) ?_ o3 i4 (Chg.trans HS.out.2 k4 (fun _ _ e => e)) hb2⟩
    rcases l3 with l | ⟨k, l, l2⟩
    · exact .inl l
    · exact .inr ⟨k, l, Nat.le_trans k1.size l2⟩
end Go.Proofs.YtghiffpolacmiabGreatDoor
