import Derived.Test.YtghiffpolacmiabGreatDoorRm
import Derived.Test.YtghiffpolacmiabGreatDoorRc
namespace Go.Proofs.YtghiffpolacmiabGreatDoor
open Go.ChangeShapes Go.WideShapes Go.ChangeAt Go.RowKit
set_option linter.unusedVariables false

set_option maxRecDepth 100000 in
set_option maxHeartbeats 4000000 in
theorem rstep_flt_b (w : World) (G bb : Nat) (g : Rg) (x : Bd) (h : Rb w G bb g x) (hx : x.le 9990) (ho : g.on = true) (hd : g.hd = true) (op X Y Z n : Int) (vw : Nat) (f c : Int) (hvw : nxt (x).ws (x).iw = (vw : Nat)) (hf : nxt (x).fa (x).jf = f) (hc : nxt (x).cy (x).ic = c)
    (hAp : ∀ V, Calls Tryz.prog 15 #[.int .u32 (vw : Nat)] V fun e w' => e = .returned (prV op X Y Z n) ∧ Kp V w') (hf0 : f ≠ 0) :
    Calls Tryz.prog 7 #[.pointer (some ⟨G, 0, none⟩), .pointer (some ⟨bb, 0, none⟩)] w fun e w' => e = .returned (.agg (rsc { Rs.zero with kind := 3, cyc := wrap64 (c + 1), flt := f, addr := g.pc }).toArray) ∧ Sp w G bb x (g.put 0 0) ((x).fet g.pc) w' := by
  obtain ⟨w1, hw1⟩ : ∃ w1, w1 = w.alloc (.cells (rsc Rs.zero).toArray 40) := ⟨_, rfl⟩
  have s1 : Sa w w1 G bb g x x := by rw [hw1]; exact Sa.init h
  have c0 := s1.r.cell 0 _ rfl
  have f0 := s1.r.fr 0
  obtain ⟨r2, k2⟩ := s1.r.set 0 (.int .u32 0) (g.put 0 0) rfl
  have s2 := s1.rset r2 k2
  obtain ⟨w2, hw2⟩ : ∃ w2, w2 = w1.setCell ⟨G, 0, none⟩ (.int .u32 0) := ⟨_, rfl⟩
  rw [← hw2] at s2
  have HW2 : Hid (w2 = w1.setCell ⟨G, 0, none⟩ (.int .u32 0)) := hw2
  clear hw2
  have c19 := s2.r.cell 19 (.bool g.on) rfl
  have c20 := s2.r.cell 20 (.bool g.hd) rfl
  have c16 := s2.r.cell 16 (.int .u32 g.pc) rfl
  rw [ho] at c19
  rw [hd] at c20
  have HX : Hid (Rb w G bb g x ∧ x.le 9990 ∧ Sa w w2 G bb (g.put 0 0) x x) := ⟨h, hx, s2⟩
  have hF := fun W v (r : IsB W bb (x.lvTo v)) => fetch_any W bb (x.lvTo v) r (hx.more (by omega)) g.pc
  have hf' : ∀ v, nxt (x.lvTo v).fa (x.lvTo v).jf = f := fun v => hf
  have hc' : ∀ v, nxt (x.lvTo v).cy (x.lvTo v).ic = c := fun v => hc
  have hw' : ∀ v, nxt (x.lvTo v).ws (x.lvTo v).iw = (vw : Nat) := fun v => hvw
  simp only [hf', hc', hw'] at hF
  have hz38 := fun w => zero38 w
  have hb40 := fun W => bld40 W (wrap64 (c + 1))
  obtain ⟨r0, hr0⟩ : ∃ r0, r0 = ({ Rs.zero with kind := 1, cyc := wrap64 (c + 1) } : Rs) := ⟨_, rfl⟩
  rw [← hr0] at hb40
  have hb65 := fun W => bld65 W G bb op X Y Z n r0
  clear h hx s1 s2 r2 k2 hf' hc' hw'
  have hZ38 : (rsc Rs.zero).toArray.size = 10 := rfl
  have hZ39 : Hid ((rsc Rs.zero).toArray = (rsc Rs.zero).toArray) := rfl
  generalize hZq : (rsc Rs.zero).toArray = Z38 at hz38 hw1
  generalize hRq : (rsc r0).toArray = R0 at hb40 hb65
  generalize hMq : (mic ⟨G, bb, op, X, Y, Z, n, r0⟩).toArray = M0 at hb65
  generalize hPq : prV op X Y Z n = PV at hb65 hAp
  go_enter Tryz.func7, Tryz.ntmps7
  go_upto_region 1 with (refine wpList_alloc_zero _ rfl 40 Z38 rfl (hz38 _) ?_)
  rw [← hw1]
  clear hw1
  go_upto_region 2 with (fail)
  rw [← HW2.out]
  clear HW2 c0 f0
  have hF2 := hF w2 x.lv HX.out.2.2.b
  go_upto_region 11 with (go_at_call 14; refine hF2.mono ?_; rintro e w3 ⟨rfl, b3⟩)
  obtain ⟨v3, s3⟩ := HX.out.2.2.bus b3 (fun k => Iff.rfl)
  clear hF2
  clear b3 hF c16 c19 c20
  go_upto_region 12 with (first
    | (go_at_call 15; refine (hAp _).mono ?_; rintro e w4 ⟨rfl, k4⟩)
    | (refine wpList_build2 rfl 40 0 1 (.const (.int .i64 1)) (.tmp 74) rfl (.int .i64 1) (.int .i64 (wrap64 (c + 1))) rfl rfl (.agg R0) (hb40 _) ?_)
    | (refine wpList_build4 rfl 65 (.tmp 69) (.tmp 70) (.tmp 72) (.tmp 75) rfl (.pointer (some ⟨G, 0, none⟩)) (.pointer (some ⟨bb, 0, none⟩)) PV (.agg R0) rfl rfl rfl rfl (.agg M0) (hb65 _) ?_)
    | (refine wpList_box_run rfl 65 (.tmp 76) rfl M0 rfl ?_))
  obtain ⟨w5, hw5⟩ : ∃ w5, w5 = w4.alloc (.cells M0 65) := ⟨_, rfl⟩
  rw [← hw5]
  obtain ⟨o5, s5⟩ := (s3.kp k4).mill (W' := w5) ⟨G, bb, op, X, Y, Z, n, r0⟩ rfl rfl (by rw [hMq]; exact hw5)
  have lM := (s3.kp k4).lt
  clear hw5
  generalize w4.heap.size = M at *
  have bf : (f == 0) = false := by simpa using hf0
  have p16 := o5.r.cell 16 (.int .u32 g.pc) rfl
  have p2 := o5.mi.cell 2 (.int .i64 op) rfl
  have d7 := o5.mi.cell 7 (.int .i64 r0.kind) rfl
  have f7 := o5.mi.fr 7
  obtain ⟨R6, C6⟩ := o5.mset 7 (.int .i64 3) ⟨G, bb, op, X, Y, Z, n, { r0 with kind := 3 }⟩ rfl rfl rfl
  have d10 := R6.mi.cell 10 (.int .i64 r0.flt) rfl
  have f10 := R6.mi.fr 10
  obtain ⟨R7, C7⟩ := R6.mset 10 (.int .i64 f) ⟨G, bb, op, X, Y, Z, n, { r0 with kind := 3, flt := f }⟩ rfl rfl rfl
  have q16 := R7.r.cell 16 (.int .u32 g.pc) rfl
  have d11 := R7.mi.cell 11 (.int .u32 r0.addr) rfl
  have f11 := R7.mi.fr 11
  obtain ⟨R8, C8⟩ := R7.mset 11 (.int .u32 g.pc) ⟨G, bb, op, X, Y, Z, n, { r0 with kind := 3, flt := f, addr := g.pc }⟩ rfl rfl rfl
  have S8 := s5.mset lM o5.nm (Chg.trans (Chg.trans C6 C7 (fun _ _ e => e)) C8 (fun _ _ e => e))
  obtain ⟨w8, hw8⟩ : ∃ w8, w8 = ((w5.setCell ⟨M, 7, none⟩ (.int .i64 3)).setCell ⟨M, 10, none⟩ (.int .i64 f)).setCell ⟨M, 11, none⟩ (.int .u32 g.pc) := ⟨_, rfl⟩
  have HW8 : Hid (w8 = ((w5.setCell ⟨M, 7, none⟩ (.int .i64 3)).setCell ⟨M, 10, none⟩ (.int .i64 f)).setCell ⟨M, 11, none⟩ (.int .u32 g.pc)) := hw8
  rw [← hw8] at S8
  have HR : Hid (IsMi w8 M ⟨G, bb, op, X, Y, Z, n, { r0 with kind := 3, flt := f, addr := g.pc }⟩) := by rw [hw8]; exact R8.mi
  have HS : Hid (Sa w w8 G bb (g.put 0 0) x (((x).fet g.pc).lvTo v3)) := S8
  clear hw8 R6 C6 R7 C7 R8 C8 S8 s5 o5 s3 k4 hAp hb40 hb65 hz38 hZ38 HX
  simp only [hr0] at *
  clear hr0
  go_upto_region 18 with (fail)
  rw [← HW8.out]
  clear HW8 d7 f7 d10 f10 q16 d11 f11 p16 p2
  have rr8 := HR.out.rs
  have hst := storeAll w8 40 w.heap.size _ (rsc ({ Rs.zero with kind := 3, cyc := wrap64 (c + 1), flt := f, addr := g.pc })).toArray 40 HS.out.res rfl (by rw [size38]; rfl) (by simpa using rsc_one _)
  obtain ⟨hE, n8⟩ := HS.out.done ({ Rs.zero with kind := 3, cyc := wrap64 (c + 1), flt := f, addr := g.pc })
  have HE : Hid (Sp w G bb x (g.put 0 0) ((x).fet g.pc) _) := hE
  have u38 := Tryz.underlying40
  have l38 : (Tryz.prog.info? 40).map (·.size) = some (rsc ({ Rs.zero with kind := 3, cyc := wrap64 (c + 1), flt := f, addr := g.pc })).length := by kernel_rfl
  clear hE HR HS
  generalize hrs : rsc ({ Rs.zero with kind := 3, cyc := wrap64 (c + 1), flt := f, addr := g.pc }) = RS at *
  obtain ⟨w9, hw9⟩ : ∃ w9, w9 = w8.setRow w.heap.size RS.toArray := ⟨_, rfl⟩
  rw [← hw9] at hst n8 HE
  clear hw9
  go_wp2_with (first
    | (refine wpList_load_mid rfl 40 (.tmp 109) rfl M 7 rfl RS _ rr8 u38 rfl l38 ?_)
    | (refine wpList_store_row rfl 40 (.tmp 4) (.tmp 110) rfl w.heap.size 0 RS.toArray rfl rfl _ hst ?_))
  refine ⟨rfl, .agg RS.toArray, ?_, by rw [← hrs], HE.out⟩
  refine results_cell_row rfl _ _ w.heap.size 40 RS.toArray (0, 0) _ rfl n8 Tryz.underlying40 rfl ?_
  rw [size38, ← hrs]; rfl
set_option maxRecDepth 100000 in
set_option maxHeartbeats 4000000 in
theorem rstep_ill_b (w : World) (G bb : Nat) (g : Rg) (x : Bd) (h : Rb w G bb g x) (hx : x.le 9990) (ho : g.on = true) (hd : g.hd = true) (vw : Nat) (f c : Int) (hvw : nxt (x).ws (x).iw = (vw : Nat)) (hf : nxt (x).fa (x).jf = f) (hc : nxt (x).cy (x).ic = c)
    (hAp : ∀ V, Calls Tryz.prog 15 #[.int .u32 (vw : Nat)] V fun e w' => e = .returned (prV (-1) 0 0 0 0) ∧ Kp V w') (hf0 : f = 0) :
    Calls Tryz.prog 7 #[.pointer (some ⟨G, 0, none⟩), .pointer (some ⟨bb, 0, none⟩)] w fun e w' => e = .returned (.agg (rsc { Rs.zero with kind := 3, cyc := wrap64 (c + 1), flt := 6, addr := g.pc }).toArray) ∧ Sp w G bb x (g.put 0 0) ((x).fet g.pc) w' := by
  obtain ⟨w1, hw1⟩ : ∃ w1, w1 = w.alloc (.cells (rsc Rs.zero).toArray 40) := ⟨_, rfl⟩
  have s1 : Sa w w1 G bb g x x := by rw [hw1]; exact Sa.init h
  have c0 := s1.r.cell 0 _ rfl
  have f0 := s1.r.fr 0
  obtain ⟨r2, k2⟩ := s1.r.set 0 (.int .u32 0) (g.put 0 0) rfl
  have s2 := s1.rset r2 k2
  obtain ⟨w2, hw2⟩ : ∃ w2, w2 = w1.setCell ⟨G, 0, none⟩ (.int .u32 0) := ⟨_, rfl⟩
  rw [← hw2] at s2
  have HW2 : Hid (w2 = w1.setCell ⟨G, 0, none⟩ (.int .u32 0)) := hw2
  clear hw2
  have c19 := s2.r.cell 19 (.bool g.on) rfl
  have c20 := s2.r.cell 20 (.bool g.hd) rfl
  have c16 := s2.r.cell 16 (.int .u32 g.pc) rfl
  rw [ho] at c19
  rw [hd] at c20
  have HX : Hid (Rb w G bb g x ∧ x.le 9990 ∧ Sa w w2 G bb (g.put 0 0) x x) := ⟨h, hx, s2⟩
  have hF := fun W v (r : IsB W bb (x.lvTo v)) => fetch_any W bb (x.lvTo v) r (hx.more (by omega)) g.pc
  have hf' : ∀ v, nxt (x.lvTo v).fa (x.lvTo v).jf = f := fun v => hf
  have hc' : ∀ v, nxt (x.lvTo v).cy (x.lvTo v).ic = c := fun v => hc
  have hw' : ∀ v, nxt (x.lvTo v).ws (x.lvTo v).iw = (vw : Nat) := fun v => hvw
  simp only [hf', hc', hw'] at hF
  have hz38 := fun w => zero38 w
  have hb40 := fun W => bld40 W (wrap64 (c + 1))
  obtain ⟨r0, hr0⟩ : ∃ r0, r0 = ({ Rs.zero with kind := 1, cyc := wrap64 (c + 1) } : Rs) := ⟨_, rfl⟩
  rw [← hr0] at hb40
  have hb65 := fun W => bld65 W G bb (-1) 0 0 0 0 r0
  clear h hx s1 s2 r2 k2 hf' hc' hw'
  have hZ38 : (rsc Rs.zero).toArray.size = 10 := rfl
  have hZ39 : Hid ((rsc Rs.zero).toArray = (rsc Rs.zero).toArray) := rfl
  generalize hZq : (rsc Rs.zero).toArray = Z38 at hz38 hw1
  generalize hRq : (rsc r0).toArray = R0 at hb40 hb65
  generalize hMq : (mic ⟨G, bb, -1, 0, 0, 0, 0, r0⟩).toArray = M0 at hb65
  generalize hPq : prV (-1) 0 0 0 0 = PV at hb65 hAp
  go_enter Tryz.func7, Tryz.ntmps7
  go_upto_region 1 with (refine wpList_alloc_zero _ rfl 40 Z38 rfl (hz38 _) ?_)
  rw [← hw1]
  clear hw1
  go_upto_region 2 with (fail)
  rw [← HW2.out]
  clear HW2 c0 f0
  have hF2 := hF w2 x.lv HX.out.2.2.b
  go_upto_region 11 with (go_at_call 14; refine hF2.mono ?_; rintro e w3 ⟨rfl, b3⟩)
  obtain ⟨v3, s3⟩ := HX.out.2.2.bus b3 (fun k => Iff.rfl)
  clear hF2
  clear b3 hF c16 c19 c20
  go_upto_region 12 with (first
    | (go_at_call 15; refine (hAp _).mono ?_; rintro e w4 ⟨rfl, k4⟩)
    | (refine wpList_build2 rfl 40 0 1 (.const (.int .i64 1)) (.tmp 74) rfl (.int .i64 1) (.int .i64 (wrap64 (c + 1))) rfl rfl (.agg R0) (hb40 _) ?_)
    | (refine wpList_build4 rfl 65 (.tmp 69) (.tmp 70) (.tmp 72) (.tmp 75) rfl (.pointer (some ⟨G, 0, none⟩)) (.pointer (some ⟨bb, 0, none⟩)) PV (.agg R0) rfl rfl rfl rfl (.agg M0) (hb65 _) ?_)
    | (refine wpList_box_run rfl 65 (.tmp 76) rfl M0 rfl ?_))
  obtain ⟨w5, hw5⟩ : ∃ w5, w5 = w4.alloc (.cells M0 65) := ⟨_, rfl⟩
  rw [← hw5]
  obtain ⟨o5, s5⟩ := (s3.kp k4).mill (W' := w5) ⟨G, bb, -1, 0, 0, 0, 0, r0⟩ rfl rfl (by rw [hMq]; exact hw5)
  have lM := (s3.kp k4).lt
  clear hw5
  generalize w4.heap.size = M at *
  subst hf0
  have p16 := o5.r.cell 16 (.int .u32 g.pc) rfl
  have p2 := o5.mi.cell 2 (.int .i64 (-1)) rfl
  have d7 := o5.mi.cell 7 (.int .i64 r0.kind) rfl
  have f7 := o5.mi.fr 7
  obtain ⟨R6, C6⟩ := o5.mset 7 (.int .i64 3) ⟨G, bb, -1, 0, 0, 0, 0, { r0 with kind := 3 }⟩ rfl rfl rfl
  have d10 := R6.mi.cell 10 (.int .i64 r0.flt) rfl
  have f10 := R6.mi.fr 10
  obtain ⟨R7, C7⟩ := R6.mset 10 (.int .i64 6) ⟨G, bb, -1, 0, 0, 0, 0, { r0 with kind := 3, flt := 6 }⟩ rfl rfl rfl
  have q16 := R7.r.cell 16 (.int .u32 g.pc) rfl
  have d11 := R7.mi.cell 11 (.int .u32 r0.addr) rfl
  have f11 := R7.mi.fr 11
  obtain ⟨R8, C8⟩ := R7.mset 11 (.int .u32 g.pc) ⟨G, bb, -1, 0, 0, 0, 0, { r0 with kind := 3, flt := 6, addr := g.pc }⟩ rfl rfl rfl
  have S8 := s5.mset lM o5.nm (Chg.trans (Chg.trans C6 C7 (fun _ _ e => e)) C8 (fun _ _ e => e))
  obtain ⟨w8, hw8⟩ : ∃ w8, w8 = ((w5.setCell ⟨M, 7, none⟩ (.int .i64 3)).setCell ⟨M, 10, none⟩ (.int .i64 6)).setCell ⟨M, 11, none⟩ (.int .u32 g.pc) := ⟨_, rfl⟩
  have HW8 : Hid (w8 = ((w5.setCell ⟨M, 7, none⟩ (.int .i64 3)).setCell ⟨M, 10, none⟩ (.int .i64 6)).setCell ⟨M, 11, none⟩ (.int .u32 g.pc)) := hw8
  rw [← hw8] at S8
  have HR : Hid (IsMi w8 M ⟨G, bb, -1, 0, 0, 0, 0, { r0 with kind := 3, flt := 6, addr := g.pc }⟩) := by rw [hw8]; exact R8.mi
  have HS : Hid (Sa w w8 G bb (g.put 0 0) x (((x).fet g.pc).lvTo v3)) := S8
  clear hw8 R6 C6 R7 C7 R8 C8 S8 s5 o5 s3 k4 hAp hb40 hb65 hz38 hZ38 HX
  simp only [hr0] at *
  clear hr0
  go_upto_region 18 with (fail)
  rw [← HW8.out]
  clear HW8 d7 f7 d10 f10 q16 d11 f11 p16 p2
  have rr8 := HR.out.rs
  have hst := storeAll w8 40 w.heap.size _ (rsc ({ Rs.zero with kind := 3, cyc := wrap64 (c + 1), flt := 6, addr := g.pc })).toArray 40 HS.out.res rfl (by rw [size38]; rfl) (by simpa using rsc_one _)
  obtain ⟨hE, n8⟩ := HS.out.done ({ Rs.zero with kind := 3, cyc := wrap64 (c + 1), flt := 6, addr := g.pc })
  have HE : Hid (Sp w G bb x (g.put 0 0) ((x).fet g.pc) _) := hE
  have u38 := Tryz.underlying40
  have l38 : (Tryz.prog.info? 40).map (·.size) = some (rsc ({ Rs.zero with kind := 3, cyc := wrap64 (c + 1), flt := 6, addr := g.pc })).length := by kernel_rfl
  clear hE HR HS
  generalize hrs : rsc ({ Rs.zero with kind := 3, cyc := wrap64 (c + 1), flt := 6, addr := g.pc }) = RS at *
  obtain ⟨w9, hw9⟩ : ∃ w9, w9 = w8.setRow w.heap.size RS.toArray := ⟨_, rfl⟩
  rw [← hw9] at hst n8 HE
  clear hw9
  go_wp2_with (first
    | (refine wpList_load_mid rfl 40 (.tmp 109) rfl M 7 rfl RS _ rr8 u38 rfl l38 ?_)
    | (refine wpList_store_row rfl 40 (.tmp 4) (.tmp 110) rfl w.heap.size 0 RS.toArray rfl rfl _ hst ?_))
  refine ⟨rfl, .agg RS.toArray, ?_, by rw [← hrs], HE.out⟩
  refine results_cell_row rfl _ _ w.heap.size 40 RS.toArray (0, 0) _ rfl n8 Tryz.underlying40 rfl ?_
  rw [size38, ← hrs]; rfl
end Go.Proofs.YtghiffpolacmiabGreatDoor
