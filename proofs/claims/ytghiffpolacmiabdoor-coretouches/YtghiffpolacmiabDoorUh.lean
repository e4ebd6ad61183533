import Derived.Test.YtghiffpolacmiabDoorUg
namespace Go.Proofs.YtghiffpolacmiabDoor
open Go.ChangeShapes Go.WideShapes Go.ChangeAt Go.RowKit
set_option linter.unusedVariables false

set_option maxRecDepth 100000 in
theorem fetch_any (w : World) (bb : Nat) (x : Bd) (h : IsB w bb x) (hx : x.le 99999) (pc : Int) :
    Calls Tryd.prog 104 #[.pointer (some ⟨bb, 0, none⟩), .int .u32 pc] w fun e w' => e = .returned (.tuple #[.int .u32 (nxt x.ws x.iw), .int .i64 (nxt x.cy x.ic), .int .i64 (nxt x.fa x.jf)]) ∧ Bo w bb x (x.fet pc) w' := by
  have c7 := h.cell 7 x.lv rfl
  obtain ⟨v', wa, hr, hbx, i1, k1, hL, gv, cv, hv⟩ := h.log ⟨102, pc, 0, 0⟩ (by have := hx.2.2.2.2; omega)
  have d7 : wa.cell? ⟨bb, 7, none⟩ = some x.lv := by rw [(cells_at hbx 7).1]; rfl
  have f7 := (cells_at hbx 7).2
  have HH : Hid (Chg w (wa.setCell ⟨bb, 7, none⟩ v') (x.own bb) ∧ (v'.ownBlock = x.lv.ownBlock ∨ ∃ k, v'.ownBlock = some k ∧ w.heap.size ≤ k)) := ⟨k1, hL⟩
  have hC := cost_any _ bb _ i1 (by obtain ⟨q1, q2, q3, q4, q5⟩ := hx; refine ⟨?_, ?_, ?_, ?_, ?_⟩ <;> simp <;> omega)
  have hN := fun w i m hm hb => next_same w i m hm hb
  have e10 := w1 (n := x.iw) (by have := hx.1; omega)
  have hrow := h.ws
  have eq1 : x.fet pc = { (x.logd ⟨102, pc, 0, 0⟩).paid with iw := if x.ws = [] then x.iw else x.iw + 1 } := rfl
  have hq : ({ x with lv := v', lg := x.lg ++ [⟨102, pc, 0, 0⟩] } : Bd).paid = (x.logd ⟨102, pc, 0, 0⟩).paid.lvTo v' := rfl
  rw [hq] at hC
  clear hq hL k1 i1 hbx h
  subst hv
  generalize x.lg.length + 1 = nl at *
  generalize x.lv = lv at c7 d7 hr
  obtain ⟨y, hy⟩ : ∃ y, y = (x.logd ⟨102, pc, 0, 0⟩).paid := ⟨_, rfl⟩
  have hy1 : y.ws = x.ws ∧ y.wv = x.wv ∧ y.iw = x.iw := by rw [hy]; exact ⟨rfl, rfl, rfl⟩
  rw [eq1, ← hy]
  rw [← hy] at hC
  clear eq1 hy
  obtain ⟨z1, z2, z3⟩ := hy1
  rw [← z3] at e10
  rw [← z1, ← z3]
  clear hrow
  clear z1 z2 z3
  generalize nxt x.cy x.ic = uc at *
  generalize nxt x.fa x.jf = uf at *
  by_cases hc : y.ws = []
  · rw [hc] at ⊢
    rw [if_pos rfl]
    go_enter Tryd.func104, Tryd.ntmps104
    go_wp2_with (first
      | (at_builtin; refine wpList_append_run _ rfl (.tmp 14) (.tmp 17) 50 50 rfl _ _ _ wa rfl rfl hr ?_)
      | (go_at_call 108; refine hC.mono ?_; rintro e w2 ⟨rfl, i2, k2⟩; have c0 := i2.cell 0 y.wv rfl; have hr2 := i2.ws; rw [show (y.lvTo (Value.slice (some ⟨gv, 0, none⟩) nl cv)).ws = [] from hc] at hr2; obtain ⟨a1, d1, q1⟩ := hr2.nil; rw [show (y.lvTo (Value.slice (some ⟨gv, 0, none⟩) nl cv)).wv = y.wv from rfl] at q1; rw [q1] at c0; have HI : Hid (IsB w2 bb (y.lvTo (Value.slice (some ⟨gv, 0, none⟩) nl cv))) := i2; clear i2))
    refine bodyPost_ret (v := .tuple #[.int .u32 0, .int .i64 uc, .int .i64 uf]) (by simp [results, Tryd.results104, go_sem]) rfl ?_
    exact ⟨rfl, _, HI.out, Chg.trans HH.out.1 k2 (fun i _ e => .inl e), HH.out.2⟩
  · rw [if_neg hc]
    have hs := fun w v (h : IsB w bb (y.lvTo v)) => h.set 8 (.int .i64 ((y.iw + 1 : Nat) : Int)) (({ y with iw := y.iw + 1 } : Bd).lvTo v) rfl rfl
    go_enter Tryd.func104, Tryd.ntmps104
    go_upto_region 5 with (first
      | (at_builtin; refine wpList_append_run _ rfl (.tmp 14) (.tmp 17) 50 50 rfl _ _ _ wa rfl rfl hr ?_)
      | (go_at_call 108; refine hC.mono ?_; rintro e w2 ⟨rfl, i2, k2⟩; have c0 := i2.cell 0 y.wv rfl; have c1 := i2.cell 8 (.int .i64 (y.iw : Nat)) rfl; have f1 := i2.fr 8; obtain ⟨g1, o1, d1, q1, _, p1, b1, m1, z1⟩ := i2.ws.at hc y.iw; rw [show (y.lvTo (Value.slice (some ⟨gv, 0, none⟩) nl cv)).wv = y.wv from rfl] at q1; rw [q1] at c0; have HI : Hid (∀ n, _) := fun n => hs _ _ (i2.kp ((Kp.refl w2).drewN n)); have HK : Hid (Chg _ w2 _) := k2; clear i2 k2 hC hs))
    rw [show (y.lvTo (Value.slice (some ⟨gv, 0, none⟩) nl cv)).ws = y.ws from rfl] at *
    generalize y.ws.length = l1 at *
    have m1' : ((min y.iw (l1 - 1) : Nat) : Int) < (l1 : Int) := by omega
    go_quiet (first | (go_at_call 109; exact Calls.quiet_of_same (hN _ _ _ p1 b1)))
    go_wp2
    refine bodyPost_ret (v := .tuple #[.int .u32 (nxt y.ws y.iw), .int .i64 uc, .int .i64 uf]) (by simp [results, Tryd.results104, go_sem]) rfl ?_
    exact ⟨rfl, _, (HI.out _).1, Chg.trans (Chg.trans HH.out.1 (Chg.drewN HK.out _) (fun i _ e => .inl e)) (HI.out _).2 (fun i _ e => .inl e), HH.out.2⟩
set_option maxRecDepth 100000 in
theorem load_any (w : World) (bb : Nat) (x : Bd) (h : IsB w bb x) (hx : x.le 99999) (a n : Int) :
    Calls Tryd.prog 106 #[.pointer (some ⟨bb, 0, none⟩), .int .u32 a, .int .i64 n] w fun e w' => e = .returned (.tuple #[.int .u32 (nxt x.vs x.iv), .int .i64 (nxt x.cy x.ic), .int .i64 (nxt x.fa x.jf)]) ∧ Bo w bb x (x.lod a n) w' := by
  have c7 := h.cell 7 x.lv rfl
  obtain ⟨v', wa, hr, hbx, i1, k1, hL, gv, cv, hv⟩ := h.log ⟨108, a, n, 0⟩ (by have := hx.2.2.2.2; omega)
  have d7 : wa.cell? ⟨bb, 7, none⟩ = some x.lv := by rw [(cells_at hbx 7).1]; rfl
  have f7 := (cells_at hbx 7).2
  have HH : Hid (Chg w (wa.setCell ⟨bb, 7, none⟩ v') (x.own bb) ∧ (v'.ownBlock = x.lv.ownBlock ∨ ∃ k, v'.ownBlock = some k ∧ w.heap.size ≤ k)) := ⟨k1, hL⟩
  have hC := cost_any _ bb _ i1 (by obtain ⟨q1, q2, q3, q4, q5⟩ := hx; refine ⟨?_, ?_, ?_, ?_, ?_⟩ <;> simp <;> omega)
  have hN := fun w i m hm hb => next_same w i m hm hb
  have e10 := w1 (n := x.iv) (by have := hx.2.1; omega)
  have hrow := h.vs
  have eq1 : x.lod a n = { (x.logd ⟨108, a, n, 0⟩).paid with iv := if x.vs = [] then x.iv else x.iv + 1 } := rfl
  have hq : ({ x with lv := v', lg := x.lg ++ [⟨108, a, n, 0⟩] } : Bd).paid = (x.logd ⟨108, a, n, 0⟩).paid.lvTo v' := rfl
  rw [hq] at hC
  clear hq hL k1 i1 hbx h
  subst hv
  generalize x.lg.length + 1 = nl at *
  generalize x.lv = lv at c7 d7 hr
  obtain ⟨y, hy⟩ : ∃ y, y = (x.logd ⟨108, a, n, 0⟩).paid := ⟨_, rfl⟩
  have hy1 : y.vs = x.vs ∧ y.vv = x.vv ∧ y.iv = x.iv := by rw [hy]; exact ⟨rfl, rfl, rfl⟩
  rw [eq1, ← hy]
  rw [← hy] at hC
  clear eq1 hy
  obtain ⟨z1, z2, z3⟩ := hy1
  rw [← z3] at e10
  rw [← z1, ← z3]
  clear hrow
  clear z1 z2 z3
  generalize nxt x.cy x.ic = uc at *
  generalize nxt x.fa x.jf = uf at *
  by_cases hc : y.vs = []
  · rw [hc] at ⊢
    rw [if_pos rfl]
    go_enter Tryd.func106, Tryd.ntmps106
    go_wp2_with (first
      | (at_builtin; refine wpList_append_run _ rfl (.tmp 16) (.tmp 20) 50 50 rfl _ _ _ wa rfl rfl hr ?_)
      | (go_at_call 108; refine hC.mono ?_; rintro e w2 ⟨rfl, i2, k2⟩; have c0 := i2.cell 1 y.vv rfl; have hr2 := i2.vs; rw [show (y.lvTo (Value.slice (some ⟨gv, 0, none⟩) nl cv)).vs = [] from hc] at hr2; obtain ⟨a1, d1, q1⟩ := hr2.nil; rw [show (y.lvTo (Value.slice (some ⟨gv, 0, none⟩) nl cv)).vv = y.vv from rfl] at q1; rw [q1] at c0; have HI : Hid (IsB w2 bb (y.lvTo (Value.slice (some ⟨gv, 0, none⟩) nl cv))) := i2; clear i2))
    refine bodyPost_ret (v := .tuple #[.int .u32 0, .int .i64 uc, .int .i64 uf]) (by simp [results, Tryd.results106, go_sem]) rfl ?_
    exact ⟨rfl, _, HI.out, Chg.trans HH.out.1 k2 (fun i _ e => .inl e), HH.out.2⟩
  · rw [if_neg hc]
    have hs := fun w v (h : IsB w bb (y.lvTo v)) => h.set 9 (.int .i64 ((y.iv + 1 : Nat) : Int)) (({ y with iv := y.iv + 1 } : Bd).lvTo v) rfl rfl
    go_enter Tryd.func106, Tryd.ntmps106
    go_upto_region 5 with (first
      | (at_builtin; refine wpList_append_run _ rfl (.tmp 16) (.tmp 20) 50 50 rfl _ _ _ wa rfl rfl hr ?_)
      | (go_at_call 108; refine hC.mono ?_; rintro e w2 ⟨rfl, i2, k2⟩; have c0 := i2.cell 1 y.vv rfl; have c1 := i2.cell 9 (.int .i64 (y.iv : Nat)) rfl; have f1 := i2.fr 9; obtain ⟨g1, o1, d1, q1, _, p1, b1, m1, z1⟩ := i2.vs.at hc y.iv; rw [show (y.lvTo (Value.slice (some ⟨gv, 0, none⟩) nl cv)).vv = y.vv from rfl] at q1; rw [q1] at c0; have HI : Hid (∀ n, _) := fun n => hs _ _ (i2.kp ((Kp.refl w2).drewN n)); have HK : Hid (Chg _ w2 _) := k2; clear i2 k2 hC hs))
    rw [show (y.lvTo (Value.slice (some ⟨gv, 0, none⟩) nl cv)).vs = y.vs from rfl] at *
    generalize y.vs.length = l1 at *
    have m1' : ((min y.iv (l1 - 1) : Nat) : Int) < (l1 : Int) := by omega
    go_quiet (first | (go_at_call 109; exact Calls.quiet_of_same (hN _ _ _ p1 b1)))
    go_wp2
    refine bodyPost_ret (v := .tuple #[.int .u32 (nxt y.vs y.iv), .int .i64 uc, .int .i64 uf]) (by simp [results, Tryd.results106, go_sem]) rfl ?_
    exact ⟨rfl, _, (HI.out _).1, Chg.trans (Chg.trans HH.out.1 (Chg.drewN HK.out _) (fun i _ e => .inl e)) (HI.out _).2 (fun i _ e => .inl e), HH.out.2⟩
end Go.Proofs.YtghiffpolacmiabDoor
