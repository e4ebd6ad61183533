import Derived.Test.YtghiffpolacmiabGreatDoorRm
import Derived.Test.YtghiffpolacmiabGreatDoorRc
namespace Go.Proofs.YtghiffpolacmiabGreatDoor
open Go.ChangeShapes Go.WideShapes Go.ChangeAt Go.RowKit
set_option linter.unusedVariables false

set_option maxRecDepth 100000 in
set_option maxHeartbeats 4000000 in
theorem rstep_lod_c (w : World) (G bb : Nat) (g : Rg) (x : Bd) (h : Rb w G bb g x) (hx : x.le 9990) (ho : g.on = true) (hd : g.hd = false) (hi : x.irq = false) (op X Y Z n : Int) (vw : Nat) (f c : Int) (hvw : nxt (x.irqd).ws (x.irqd).iw = (vw : Nat)) (hf : nxt (x.irqd).fa (x.irqd).jf = f) (hc : nxt (x.irqd).cy (x.irqd).ic = c)
    (hAp : ∀ V, Calls Tryz.prog 15 #[.int .u32 (vw : Nat)] V fun e w' => e = .returned (prV op X Y Z n) ∧ Kp V w') (hf0 : f = 0) (hlo : 23 ≤ op) (hhi : op ≤ 27) (g' : Rg) (z : Value → Bd) (z0 : Bd) (r' : Rs) (hz : ∀ v v', (z v).lvTo v' = z0.lvTo v') (hrow : ∀ v k, (z v).row k ↔ (((x.irqd).fet g.pc).lvTo v).row k)
    (hC : ∀ V M v, Ro V M (g.put 0 0) (((x.irqd).fet g.pc).lvTo v) ⟨G, bb, op, X, Y, Z, n, { Rs.zero with kind := 1, cyc := wrap64 (c + 1) }⟩ → Calls Tryz.prog 19 #[.pointer (some ⟨M, 0, none⟩)] V (Rz V M (((x.irqd).fet g.pc).lvTo v) g' (z v) ⟨G, bb, op, X, Y, Z, n, r'⟩)) :
    Calls Tryz.prog 7 #[.pointer (some ⟨G, 0, none⟩), .pointer (some ⟨bb, 0, none⟩)] w fun e w' => e = .returned (.agg (rsc r').toArray) ∧ Sp w G bb x g' z0 w' := by
  have HC : Hid (∀ V M v, Ro V M (g.put 0 0) (((x.irqd).fet g.pc).lvTo v) ⟨G, bb, op, X, Y, Z, n, { Rs.zero with kind := 1, cyc := wrap64 (c + 1) }⟩ → Calls Tryz.prog 19 #[.pointer (some ⟨M, 0, none⟩)] V (Rz V M (((x.irqd).fet g.pc).lvTo v) g' (z v) ⟨G, bb, op, X, Y, Z, n, r'⟩)) := hC
  have HZ : Hid ((∀ v v', (z v).lvTo v' = z0.lvTo v') ∧ (∀ v k, (z v).row k ↔ (((x.irqd).fet g.pc).lvTo v).row k)) := ⟨hz, hrow⟩
  clear hC hz hrow
  obtain ⟨w1, hw1⟩ : ∃ w1, w1 = w.alloc (.cells (rsc Rs.zero).toArray 40) := ⟨_, rfl⟩
  have s1 : Sa w w1 G bb g x x := by rw [hw1]; exact Sa.init h
  have c0 := s1.r.cell 0 _ rfl
  have f0 := s1.r.fr 0
  obtain ⟨r2, k2⟩ := s1.r.set 0 (.int .u32 0) (g.put 0 0) rfl
  have s2 := s1.rset r2 k2
  obtain ⟨w2, hw2⟩ : ∃ w2, w2 = w1.setCell ⟨G, 0, none⟩ (.int .u32 0) := ⟨_, rfl⟩
  rw [← hw2] at s2
  have HW2 : Hid (w2 = w1.setCell ⟨G, 0, none⟩ (.int .u32 0)) := hw2
  clear hw2
  have c19 := s2.r.cell 19 (.bool g.on) rfl
  have c20 := s2.r.cell 20 (.bool g.hd) rfl
  have c16 := s2.r.cell 16 (.int .u32 g.pc) rfl
  rw [ho] at c19
  rw [hd] at c20
  have hI := irq_any w2 bb x s2.b (hx.more (by omega))
  rw [hi] at hI
  have HX : Hid (Rb w G bb g x ∧ x.le 9990 ∧ Sa w w2 G bb (g.put 0 0) x x) := ⟨h, hx, s2⟩
  have hF := fun W v (r : IsB W bb (x.irqd.lvTo v)) => fetch_any W bb (x.irqd.lvTo v) r ((irqd_le hx).more (by omega)) g.pc
  have hf' : ∀ v, nxt (x.irqd.lvTo v).fa (x.irqd.lvTo v).jf = f := fun v => hf
  have hc' : ∀ v, nxt (x.irqd.lvTo v).cy (x.irqd.lvTo v).ic = c := fun v => hc
  have hw' : ∀ v, nxt (x.irqd.lvTo v).ws (x.irqd.lvTo v).iw = (vw : Nat) := fun v => hvw
  simp only [hf', hc', hw'] at hF
  have hz38 := fun w => zero38 w
  have hb40 := fun W => bld40 W (wrap64 (c + 1))
  obtain ⟨r0, hr0⟩ : ∃ r0, r0 = ({ Rs.zero with kind := 1, cyc := wrap64 (c + 1) } : Rs) := ⟨_, rfl⟩
  rw [← hr0] at hb40
  have hb65 := fun W => bld65 W G bb op X Y Z n r0
  clear h hx s1 s2 r2 k2 hf' hc' hw'
  have hZ38 : (rsc Rs.zero).toArray.size = 10 := rfl
  have hZ39 : Hid ((rsc Rs.zero).toArray = (rsc Rs.zero).toArray) := rfl
  generalize hZq : (rsc Rs.zero).toArray = Z38 at hz38 hw1
  generalize hRq : (rsc r0).toArray = R0 at hb40 hb65
  generalize hMq : (mic ⟨G, bb, op, X, Y, Z, n, r0⟩).toArray = M0 at hb65
  generalize hPq : prV op X Y Z n = PV at hb65 hAp
  go_enter Tryz.func7, Tryz.ntmps7
  go_upto_region 1 with (refine wpList_alloc_zero _ rfl 40 Z38 rfl (hz38 _) ?_)
  rw [← hw1]
  clear hw1
  go_upto_region 2 with (fail)
  rw [← HW2.out]
  clear HW2 c0 f0
  go_upto_region 10 with (go_at_call 13; refine hI.mono ?_; rintro e wi ⟨rfl, bi⟩)
  obtain ⟨vi, si⟩ := HX.out.2.2.bus bi (fun k => irqd_row x k)
  have ci16 := si.r.cell 16 (.int .u32 g.pc) rfl
  have hF2 := hF wi vi si.b
  go_upto_region 11 with (go_at_call 14; refine hF2.mono ?_; rintro e w3 ⟨rfl, b3⟩)
  obtain ⟨v3, s3⟩ := si.bus b3 (fun k => Iff.rfl)
  clear hF2 bi ci16 hI si
  clear b3 hF c16 c19 c20
  go_upto_region 12 with (first
    | (go_at_call 15; refine (hAp _).mono ?_; rintro e w4 ⟨rfl, k4⟩)
    | (refine wpList_build2 rfl 40 0 1 (.const (.int .i64 1)) (.tmp 74) rfl (.int .i64 1) (.int .i64 (wrap64 (c + 1))) rfl rfl (.agg R0) (hb40 _) ?_)
    | (refine wpList_build4 rfl 65 (.tmp 69) (.tmp 70) (.tmp 72) (.tmp 75) rfl (.pointer (some ⟨G, 0, none⟩)) (.pointer (some ⟨bb, 0, none⟩)) PV (.agg R0) rfl rfl rfl rfl (.agg M0) (hb65 _) ?_)
    | (refine wpList_box_run rfl 65 (.tmp 76) rfl M0 rfl ?_))
  obtain ⟨w5, hw5⟩ : ∃ w5, w5 = w4.alloc (.cells M0 65) := ⟨_, rfl⟩
  rw [← hw5]
  obtain ⟨o5, s5⟩ := (s3.kp k4).mill (W' := w5) ⟨G, bb, op, X, Y, Z, n, r0⟩ rfl rfl (by rw [hMq]; exact hw5)
  have lM := (s3.kp k4).lt
  clear hw5
  generalize w4.heap.size = M at *
  subst hf0
  have p2 := o5.mi.cell 2 (.int .i64 op) rfl
  have bop : ¬ op < 0 := by omega
  have rrP := o5.mi.pr
  obtain ⟨w6, hw6⟩ : ∃ w6, w6 = w5.alloc (.cells z62 62) := ⟨_, rfl⟩
  have k6 : Kp w5 w6 := by rw [hw6]; exact (Chg.refl w5 _).alloc _
  have n6 : w6.heap[w5.heap.size]? = some (.cells z62 62 (0, 0)) := by rw [hw6]; exact heap_alloc_new w5 _
  have hst7 := storeAll w6 62 w5.heap.size _ (prL ⟨G, bb, op, X, Y, Z, n, r0⟩).toArray 62 n6 rfl (by rw [size62]; rfl) (by simpa using prL_one _)
  obtain ⟨w7, hw7⟩ : ∃ w7, w7 = w6.setRow w5.heap.size (prL ⟨G, bb, op, X, Y, Z, n, r0⟩).toArray := ⟨_, rfl⟩
  rw [← hw7] at hst7
  have n7 : w7.heap[w5.heap.size]? = some (.cells (prL ⟨G, bb, op, X, Y, Z, n, r0⟩).toArray 62 (0, 0)) := by rw [hw7]; exact setRow_heap w6 _ _ _ 62 (0, 0) n6
  have k7 : Kp w5 w7 := Chg.trans k6 (show Chg w6 w7 (fun k => k = w5.heap.size) by rw [hw7]; exact Chg.setRow (S := fun k => k = w5.heap.size) (Chg.refl _ _) (.inl rfl) _) (fun i hi e => by omega)
  have b0 : w7.cell? ⟨w5.heap.size, 0, none⟩ = some (.int .i64 op) := by rw [(cells_at n7 0).1]; rfl
  have b1 : w7.cell? ⟨w5.heap.size, 1, none⟩ = some (.int .i64 X) := by rw [(cells_at n7 1).1]; rfl
  have b2 : w7.cell? ⟨w5.heap.size, 2, none⟩ = some (.int .i64 Y) := by rw [(cells_at n7 2).1]; rfl
  have b3 : w7.cell? ⟨w5.heap.size, 3, none⟩ = some (.int .i64 Z) := by rw [(cells_at n7 3).1]; rfl
  have b4 : w7.cell? ⟨w5.heap.size, 4, none⟩ = some (.int .i64 n) := by rw [(cells_at n7 4).1]; rfl
  have o7 := o5.kp k7
  have s7 := s5.kp k7
  have lB : w.heap.size < w5.heap.size := Nat.lt_of_lt_of_le lM (Nat.le_of_lt (hp_lt o5.mi))
  have H7 : Hid (Ro w7 M (g.put 0 0) (((x.irqd).fet g.pc).lvTo v3) ⟨G, bb, op, X, Y, Z, n, r0⟩ ∧ Sa w w7 G bb (g.put 0 0) x (((x.irqd).fet g.pc).lvTo v3) ∧ w.heap.size < M ∧ w7.heap[w5.heap.size]? = some (.cells (prL ⟨G, bb, op, X, Y, Z, n, r0⟩).toArray 62 (0, 0))) := ⟨o7, s7, lM, n7⟩
  have hz62 := fun w => zero62 w
  have u62 := Tryz.underlying62
  have l62 : (Tryz.prog.info? 62).map (·.size) = some (prL ⟨G, bb, op, X, Y, Z, n, r0⟩).length := by kernel_rfl
  have hBq : Hid (w5.heap.size = w5.heap.size) := rfl
  clear hw7 s5 o5 s3 k4 hAp hb40 hb65 hz38 hZ38 HX k6 n6 n7 k7 o7 s7 lM
  generalize hPL : prL ⟨G, bb, op, X, Y, Z, n, r0⟩ = PL at hst7 rrP l62
  generalize z62 = Z62 at hz62 hw6
  subst hw6
  go_upto_region 21 with (first
    | (refine wpList_load_mid rfl 62 (.tmp 113) rfl M 2 rfl PL _ rrP u62 rfl l62 ?_)
    | (refine wpList_alloc_zero _ rfl 62 Z62 rfl (hz62 _) ?_)
    | (refine wpList_store_row rfl 62 (.tmp 11) (.tmp 114) rfl w5.heap.size 0 PL.toArray rfl rfl _ hst7 ?_))
  generalize w5.heap.size = B at *
  have q0 : ¬ op ≤ 12 := by omega
  have q1 : ¬ op ≤ 21 := by omega
  have q22 : ¬ op = 22 := by omega
  have qh : op ≤ 27 := by omega
  have hC := HC.out w7 M v3 (by rw [← hr0]; exact H7.out.1)
  go_upto_region 39 with (go_at_call 19; refine hC.mono ?_; rintro e w8 ⟨rfl, hv8⟩)
  obtain ⟨v9, S8, M8⟩ := H7.out.2.1.rv H7.out.2.2.1 rfl rfl hv8 (fun k => HZ.out.2 v3 k)
  rw [HZ.out.1] at S8
  have HR : Hid (IsMi w8 M ⟨G, bb, op, X, Y, Z, n, r'⟩) := M8
  have HS : Hid (Sa w w8 G bb g' x (z0.lvTo v9)) := S8
  clear hC hv8 S8 M8 H7 HC HZ b0 b1 b2 b3 b4
  have rr8 := HR.out.rs
  have hst := storeAll w8 40 w.heap.size _ (rsc (r')).toArray 40 HS.out.res rfl (by rw [size38]; rfl) (by simpa using rsc_one _)
  obtain ⟨hE, n8⟩ := HS.out.done (r')
  have HE : Hid (Sp w G bb x (g') (z0) _) := hE
  have u38 := Tryz.underlying40
  have l38 : (Tryz.prog.info? 40).map (·.size) = some (rsc (r')).length := by kernel_rfl
  clear hE HR HS
  generalize hrs : rsc (r') = RS at *
  obtain ⟨w9, hw9⟩ : ∃ w9, w9 = w8.setRow w.heap.size RS.toArray := ⟨_, rfl⟩
  rw [← hw9] at hst n8 HE
  clear hw9
  go_wp2_with (first
    | (refine wpList_load_mid rfl 40 (.tmp 256) rfl M 7 rfl RS _ rr8 u38 rfl l38 ?_)
    | (refine wpList_store_row rfl 40 (.tmp 4) (.tmp 257) rfl w.heap.size 0 RS.toArray rfl rfl _ hst ?_))
  refine ⟨rfl, .agg RS.toArray, ?_, by rw [← hrs], HE.out⟩
  refine results_cell_row rfl _ _ w.heap.size 40 RS.toArray (0, 0) _ rfl n8 Tryz.underlying40 rfl ?_
  rw [size38, ← hrs]; rfl
set_option maxRecDepth 100000 in
set_option maxHeartbeats 4000000 in
theorem rstep_sto_c (w : World) (G bb : Nat) (g : Rg) (x : Bd) (h : Rb w G bb g x) (hx : x.le 9990) (ho : g.on = true) (hd : g.hd = false) (hi : x.irq = false) (op X Y Z n : Int) (vw : Nat) (f c : Int) (hvw : nxt (x.irqd).ws (x.irqd).iw = (vw : Nat)) (hf : nxt (x.irqd).fa (x.irqd).jf = f) (hc : nxt (x.irqd).cy (x.irqd).ic = c)
    (hAp : ∀ V, Calls Tryz.prog 15 #[.int .u32 (vw : Nat)] V fun e w' => e = .returned (prV op X Y Z n) ∧ Kp V w') (hf0 : f = 0) (hlo : 28 ≤ op) (hhi : op ≤ 30) (g' : Rg) (z : Value → Bd) (z0 : Bd) (r' : Rs) (hz : ∀ v v', (z v).lvTo v' = z0.lvTo v') (hrow : ∀ v k, (z v).row k ↔ (((x.irqd).fet g.pc).lvTo v).row k)
    (hC : ∀ V M v, Ro V M (g.put 0 0) (((x.irqd).fet g.pc).lvTo v) ⟨G, bb, op, X, Y, Z, n, { Rs.zero with kind := 1, cyc := wrap64 (c + 1) }⟩ → Calls Tryz.prog 20 #[.pointer (some ⟨M, 0, none⟩)] V (Rz V M (((x.irqd).fet g.pc).lvTo v) g' (z v) ⟨G, bb, op, X, Y, Z, n, r'⟩)) :
    Calls Tryz.prog 7 #[.pointer (some ⟨G, 0, none⟩), .pointer (some ⟨bb, 0, none⟩)] w fun e w' => e = .returned (.agg (rsc r').toArray) ∧ Sp w G bb x g' z0 w' := by
  have HC : Hid (∀ V M v, Ro V M (g.put 0 0) (((x.irqd).fet g.pc).lvTo v) ⟨G, bb, op, X, Y, Z, n, { Rs.zero with kind := 1, cyc := wrap64 (c + 1) }⟩ → Calls Tryz.prog 20 #[.pointer (some ⟨M, 0, none⟩)] V (Rz V M (((x.irqd).fet g.pc).lvTo v) g' (z v) ⟨G, bb, op, X, Y, Z, n, r'⟩)) := hC
  have HZ : Hid ((∀ v v', (z v).lvTo v' = z0.lvTo v') ∧ (∀ v k, (z v).row k ↔ (((x.irqd).fet g.pc).lvTo v).row k)) := ⟨hz, hrow⟩
  clear hC hz hrow
  obtain ⟨w1, hw1⟩ : ∃ w1, w1 = w.alloc (.cells (rsc Rs.zero).toArray 40) := ⟨_, rfl⟩
  have s1 : Sa w w1 G bb g x x := by rw [hw1]; exact Sa.init h
  have c0 := s1.r.cell 0 _ rfl
  have f0 := s1.r.fr 0
  obtain ⟨r2, k2⟩ := s1.r.set 0 (.int .u32 0) (g.put 0 0) rfl
  have s2 := s1.rset r2 k2
  obtain ⟨w2, hw2⟩ : ∃ w2, w2 = w1.setCell ⟨G, 0, none⟩ (.int .u32 0) := ⟨_, rfl⟩
  rw [← hw2] at s2
  have HW2 : Hid (w2 = w1.setCell ⟨G, 0, none⟩ (.int .u32 0)) := hw2
  clear hw2
  have c19 := s2.r.cell 19 (.bool g.on) rfl
  have c20 := s2.r.cell 20 (.bool g.hd) rfl
  have c16 := s2.r.cell 16 (.int .u32 g.pc) rfl
  rw [ho] at c19
  rw [hd] at c20
  have hI := irq_any w2 bb x s2.b (hx.more (by omega))
  rw [hi] at hI
  have HX : Hid (Rb w G bb g x ∧ x.le 9990 ∧ Sa w w2 G bb (g.put 0 0) x x) := ⟨h, hx, s2⟩
  have hF := fun W v (r : IsB W bb (x.irqd.lvTo v)) => fetch_any W bb (x.irqd.lvTo v) r ((irqd_le hx).more (by omega)) g.pc
  have hf' : ∀ v, nxt (x.irqd.lvTo v).fa (x.irqd.lvTo v).jf = f := fun v => hf
  have hc' : ∀ v, nxt (x.irqd.lvTo v).cy (x.irqd.lvTo v).ic = c := fun v => hc
  have hw' : ∀ v, nxt (x.irqd.lvTo v).ws (x.irqd.lvTo v).iw = (vw : Nat) := fun v => hvw
  simp only [hf', hc', hw'] at hF
  have hz38 := fun w => zero38 w
  have hb40 := fun W => bld40 W (wrap64 (c + 1))
  obtain ⟨r0, hr0⟩ : ∃ r0, r0 = ({ Rs.zero with kind := 1, cyc := wrap64 (c + 1) } : Rs) := ⟨_, rfl⟩
  rw [← hr0] at hb40
  have hb65 := fun W => bld65 W G bb op X Y Z n r0
  clear h hx s1 s2 r2 k2 hf' hc' hw'
  have hZ38 : (rsc Rs.zero).toArray.size = 10 := rfl
  have hZ39 : Hid ((rsc Rs.zero).toArray = (rsc Rs.zero).toArray) := rfl
  generalize hZq : (rsc Rs.zero).toArray = Z38 at hz38 hw1
  generalize hRq : (rsc r0).toArray = R0 at hb40 hb65
  generalize hMq : (mic ⟨G, bb, op, X, Y, Z, n, r0⟩).toArray = M0 at hb65
  generalize hPq : prV op X Y Z n = PV at hb65 hAp
  go_enter Tryz.func7, Tryz.ntmps7
  go_upto_region 1 with (refine wpList_alloc_zero _ rfl 40 Z38 rfl (hz38 _) ?_)
  rw [← hw1]
  clear hw1
  go_upto_region 2 with (fail)
  rw [← HW2.out]
  clear HW2 c0 f0
  go_upto_region 10 with (go_at_call 13; refine hI.mono ?_; rintro e wi ⟨rfl, bi⟩)
  obtain ⟨vi, si⟩ := HX.out.2.2.bus bi (fun k => irqd_row x k)
  have ci16 := si.r.cell 16 (.int .u32 g.pc) rfl
  have hF2 := hF wi vi si.b
  go_upto_region 11 with (go_at_call 14; refine hF2.mono ?_; rintro e w3 ⟨rfl, b3⟩)
  obtain ⟨v3, s3⟩ := si.bus b3 (fun k => Iff.rfl)
  clear hF2 bi ci16 hI si
  clear b3 hF c16 c19 c20
  go_upto_region 12 with (first
    | (go_at_call 15; refine (hAp _).mono ?_; rintro e w4 ⟨rfl, k4⟩)
    | (refine wpList_build2 rfl 40 0 1 (.const (.int .i64 1)) (.tmp 74) rfl (.int .i64 1) (.int .i64 (wrap64 (c + 1))) rfl rfl (.agg R0) (hb40 _) ?_)
    | (refine wpList_build4 rfl 65 (.tmp 69) (.tmp 70) (.tmp 72) (.tmp 75) rfl (.pointer (some ⟨G, 0, none⟩)) (.pointer (some ⟨bb, 0, none⟩)) PV (.agg R0) rfl rfl rfl rfl (.agg M0) (hb65 _) ?_)
    | (refine wpList_box_run rfl 65 (.tmp 76) rfl M0 rfl ?_))
  obtain ⟨w5, hw5⟩ : ∃ w5, w5 = w4.alloc (.cells M0 65) := ⟨_, rfl⟩
  rw [← hw5]
  obtain ⟨o5, s5⟩ := (s3.kp k4).mill (W' := w5) ⟨G, bb, op, X, Y, Z, n, r0⟩ rfl rfl (by rw [hMq]; exact hw5)
  have lM := (s3.kp k4).lt
  clear hw5
  generalize w4.heap.size = M at *
  subst hf0
  have p2 := o5.mi.cell 2 (.int .i64 op) rfl
  have bop : ¬ op < 0 := by omega
  have rrP := o5.mi.pr
  obtain ⟨w6, hw6⟩ : ∃ w6, w6 = w5.alloc (.cells z62 62) := ⟨_, rfl⟩
  have k6 : Kp w5 w6 := by rw [hw6]; exact (Chg.refl w5 _).alloc _
  have n6 : w6.heap[w5.heap.size]? = some (.cells z62 62 (0, 0)) := by rw [hw6]; exact heap_alloc_new w5 _
  have hst7 := storeAll w6 62 w5.heap.size _ (prL ⟨G, bb, op, X, Y, Z, n, r0⟩).toArray 62 n6 rfl (by rw [size62]; rfl) (by simpa using prL_one _)
  obtain ⟨w7, hw7⟩ : ∃ w7, w7 = w6.setRow w5.heap.size (prL ⟨G, bb, op, X, Y, Z, n, r0⟩).toArray := ⟨_, rfl⟩
  rw [← hw7] at hst7
  have n7 : w7.heap[w5.heap.size]? = some (.cells (prL ⟨G, bb, op, X, Y, Z, n, r0⟩).toArray 62 (0, 0)) := by rw [hw7]; exact setRow_heap w6 _ _ _ 62 (0, 0) n6
  have k7 : Kp w5 w7 := Chg.trans k6 (show Chg w6 w7 (fun k => k = w5.heap.size) by rw [hw7]; exact Chg.setRow (S := fun k => k = w5.heap.size) (Chg.refl _ _) (.inl rfl) _) (fun i hi e => by omega)
  have b0 : w7.cell? ⟨w5.heap.size, 0, none⟩ = some (.int .i64 op) := by rw [(cells_at n7 0).1]; rfl
  have b1 : w7.cell? ⟨w5.heap.size, 1, none⟩ = some (.int .i64 X) := by rw [(cells_at n7 1).1]; rfl
  have b2 : w7.cell? ⟨w5.heap.size, 2, none⟩ = some (.int .i64 Y) := by rw [(cells_at n7 2).1]; rfl
  have b3 : w7.cell? ⟨w5.heap.size, 3, none⟩ = some (.int .i64 Z) := by rw [(cells_at n7 3).1]; rfl
  have b4 : w7.cell? ⟨w5.heap.size, 4, none⟩ = some (.int .i64 n) := by rw [(cells_at n7 4).1]; rfl
  have o7 := o5.kp k7
  have s7 := s5.kp k7
  have lB : w.heap.size < w5.heap.size := Nat.lt_of_lt_of_le lM (Nat.le_of_lt (hp_lt o5.mi))
  have H7 : Hid (Ro w7 M (g.put 0 0) (((x.irqd).fet g.pc).lvTo v3) ⟨G, bb, op, X, Y, Z, n, r0⟩ ∧ Sa w w7 G bb (g.put 0 0) x (((x.irqd).fet g.pc).lvTo v3) ∧ w.heap.size < M ∧ w7.heap[w5.heap.size]? = some (.cells (prL ⟨G, bb, op, X, Y, Z, n, r0⟩).toArray 62 (0, 0))) := ⟨o7, s7, lM, n7⟩
  have hz62 := fun w => zero62 w
  have u62 := Tryz.underlying62
  have l62 : (Tryz.prog.info? 62).map (·.size) = some (prL ⟨G, bb, op, X, Y, Z, n, r0⟩).length := by kernel_rfl
  have hBq : Hid (w5.heap.size = w5.heap.size) := rfl
  clear hw7 s5 o5 s3 k4 hAp hb40 hb65 hz38 hZ38 HX k6 n6 n7 k7 o7 s7 lM
  generalize hPL : prL ⟨G, bb, op, X, Y, Z, n, r0⟩ = PL at hst7 rrP l62
  generalize z62 = Z62 at hz62 hw6
  subst hw6
  go_upto_region 21 with (first
    | (refine wpList_load_mid rfl 62 (.tmp 113) rfl M 2 rfl PL _ rrP u62 rfl l62 ?_)
    | (refine wpList_alloc_zero _ rfl 62 Z62 rfl (hz62 _) ?_)
    | (refine wpList_store_row rfl 62 (.tmp 11) (.tmp 114) rfl w5.heap.size 0 PL.toArray rfl rfl _ hst7 ?_))
  generalize w5.heap.size = B at *
  have q0 : ¬ op ≤ 12 := by omega
  have q1 : ¬ op ≤ 21 := by omega
  have q2 : ¬ op ≤ 27 := by omega
  have q22 : ¬ op = 22 := by omega
  have qh : op ≤ 30 := by omega
  have hC := HC.out w7 M v3 (by rw [← hr0]; exact H7.out.1)
  go_upto_region 39 with (go_at_call 20; refine hC.mono ?_; rintro e w8 ⟨rfl, hv8⟩)
  obtain ⟨v9, S8, M8⟩ := H7.out.2.1.rv H7.out.2.2.1 rfl rfl hv8 (fun k => HZ.out.2 v3 k)
  rw [HZ.out.1] at S8
  have HR : Hid (IsMi w8 M ⟨G, bb, op, X, Y, Z, n, r'⟩) := M8
  have HS : Hid (Sa w w8 G bb g' x (z0.lvTo v9)) := S8
  clear hC hv8 S8 M8 H7 HC HZ b0 b1 b2 b3 b4
  have rr8 := HR.out.rs
  have hst := storeAll w8 40 w.heap.size _ (rsc (r')).toArray 40 HS.out.res rfl (by rw [size38]; rfl) (by simpa using rsc_one _)
  obtain ⟨hE, n8⟩ := HS.out.done (r')
  have HE : Hid (Sp w G bb x (g') (z0) _) := hE
  have u38 := Tryz.underlying40
  have l38 : (Tryz.prog.info? 40).map (·.size) = some (rsc (r')).length := by kernel_rfl
  clear hE HR HS
  generalize hrs : rsc (r') = RS at *
  obtain ⟨w9, hw9⟩ : ∃ w9, w9 = w8.setRow w.heap.size RS.toArray := ⟨_, rfl⟩
  rw [← hw9] at hst n8 HE
  clear hw9
  go_wp2_with (first
    | (refine wpList_load_mid rfl 40 (.tmp 256) rfl M 7 rfl RS _ rr8 u38 rfl l38 ?_)
    | (refine wpList_store_row rfl 40 (.tmp 4) (.tmp 257) rfl w.heap.size 0 RS.toArray rfl rfl _ hst ?_))
  refine ⟨rfl, .agg RS.toArray, ?_, by rw [← hrs], HE.out⟩
  refine results_cell_row rfl _ _ w.heap.size 40 RS.toArray (0, 0) _ rfl n8 Tryz.underlying40 rfl ?_
  rw [size38, ← hrs]; rfl
set_option maxRecDepth 100000 in
set_option maxHeartbeats 4000000 in
theorem rstep_rst_c (w : World) (G bb : Nat) (g : Rg) (x : Bd) (h : Rb w G bb g x) (hx : x.le 9990) (ho : g.on = true) (hd : g.hd = false) (hi : x.irq = false) (op X Y Z n : Int) (vw : Nat) (f c : Int) (hvw : nxt (x.irqd).ws (x.irqd).iw = (vw : Nat)) (hf : nxt (x.irqd).fa (x.irqd).jf = f) (hc : nxt (x.irqd).cy (x.irqd).ic = c)
    (hAp : ∀ V, Calls Tryz.prog 15 #[.int .u32 (vw : Nat)] V fun e w' => e = .returned (prV op X Y Z n) ∧ Kp V w') (hf0 : f = 0) (hlo : 37 ≤ op) (hhi : op ≤ 47) (g' : Rg) (z : Value → Bd) (z0 : Bd) (r' : Rs) (hz : ∀ v v', (z v).lvTo v' = z0.lvTo v') (hrow : ∀ v k, (z v).row k ↔ (((x.irqd).fet g.pc).lvTo v).row k)
    (hC : ∀ V M v, Ro V M (g.put 0 0) (((x.irqd).fet g.pc).lvTo v) ⟨G, bb, op, X, Y, Z, n, { Rs.zero with kind := 1, cyc := wrap64 (c + 1) }⟩ → Calls Tryz.prog 22 #[.pointer (some ⟨M, 0, none⟩)] V (Rz V M (((x.irqd).fet g.pc).lvTo v) g' (z v) ⟨G, bb, op, X, Y, Z, n, r'⟩)) :
    Calls Tryz.prog 7 #[.pointer (some ⟨G, 0, none⟩), .pointer (some ⟨bb, 0, none⟩)] w fun e w' => e = .returned (.agg (rsc r').toArray) ∧ Sp w G bb x g' z0 w' := by
  have HC : Hid (∀ V M v, Ro V M (g.put 0 0) (((x.irqd).fet g.pc).lvTo v) ⟨G, bb, op, X, Y, Z, n, { Rs.zero with kind := 1, cyc := wrap64 (c + 1) }⟩ → Calls Tryz.prog 22 #[.pointer (some ⟨M, 0, none⟩)] V (Rz V M (((x.irqd).fet g.pc).lvTo v) g' (z v) ⟨G, bb, op, X, Y, Z, n, r'⟩)) := hC
  have HZ : Hid ((∀ v v', (z v).lvTo v' = z0.lvTo v') ∧ (∀ v k, (z v).row k ↔ (((x.irqd).fet g.pc).lvTo v).row k)) := ⟨hz, hrow⟩
  clear hC hz hrow
  obtain ⟨w1, hw1⟩ : ∃ w1, w1 = w.alloc (.cells (rsc Rs.zero).toArray 40) := ⟨_, rfl⟩
  have s1 : Sa w w1 G bb g x x := by rw [hw1]; exact Sa.init h
  have c0 := s1.r.cell 0 _ rfl
  have f0 := s1.r.fr 0
  obtain ⟨r2, k2⟩ := s1.r.set 0 (.int .u32 0) (g.put 0 0) rfl
  have s2 := s1.rset r2 k2
  obtain ⟨w2, hw2⟩ : ∃ w2, w2 = w1.setCell ⟨G, 0, none⟩ (.int .u32 0) := ⟨_, rfl⟩
  rw [← hw2] at s2
  have HW2 : Hid (w2 = w1.setCell ⟨G, 0, none⟩ (.int .u32 0)) := hw2
  clear hw2
  have c19 := s2.r.cell 19 (.bool g.on) rfl
  have c20 := s2.r.cell 20 (.bool g.hd) rfl
  have c16 := s2.r.cell 16 (.int .u32 g.pc) rfl
  rw [ho] at c19
  rw [hd] at c20
  have hI := irq_any w2 bb x s2.b (hx.more (by omega))
  rw [hi] at hI
  have HX : Hid (Rb w G bb g x ∧ x.le 9990 ∧ Sa w w2 G bb (g.put 0 0) x x) := ⟨h, hx, s2⟩
  have hF := fun W v (r : IsB W bb (x.irqd.lvTo v)) => fetch_any W bb (x.irqd.lvTo v) r ((irqd_le hx).more (by omega)) g.pc
  have hf' : ∀ v, nxt (x.irqd.lvTo v).fa (x.irqd.lvTo v).jf = f := fun v => hf
  have hc' : ∀ v, nxt (x.irqd.lvTo v).cy (x.irqd.lvTo v).ic = c := fun v => hc
  have hw' : ∀ v, nxt (x.irqd.lvTo v).ws (x.irqd.lvTo v).iw = (vw : Nat) := fun v => hvw
  simp only [hf', hc', hw'] at hF
  have hz38 := fun w => zero38 w
  have hb40 := fun W => bld40 W (wrap64 (c + 1))
  obtain ⟨r0, hr0⟩ : ∃ r0, r0 = ({ Rs.zero with kind := 1, cyc := wrap64 (c + 1) } : Rs) := ⟨_, rfl⟩
  rw [← hr0] at hb40
  have hb65 := fun W => bld65 W G bb op X Y Z n r0
  clear h hx s1 s2 r2 k2 hf' hc' hw'
  have hZ38 : (rsc Rs.zero).toArray.size = 10 := rfl
  have hZ39 : Hid ((rsc Rs.zero).toArray = (rsc Rs.zero).toArray) := rfl
  generalize hZq : (rsc Rs.zero).toArray = Z38 at hz38 hw1
  generalize hRq : (rsc r0).toArray = R0 at hb40 hb65
  generalize hMq : (mic ⟨G, bb, op, X, Y, Z, n, r0⟩).toArray = M0 at hb65
  generalize hPq : prV op X Y Z n = PV at hb65 hAp
  go_enter Tryz.func7, Tryz.ntmps7
  go_upto_region 1 with (refine wpList_alloc_zero _ rfl 40 Z38 rfl (hz38 _) ?_)
  rw [← hw1]
  clear hw1
  go_upto_region 2 with (fail)
  rw [← HW2.out]
  clear HW2 c0 f0
  go_upto_region 10 with (go_at_call 13; refine hI.mono ?_; rintro e wi ⟨rfl, bi⟩)
  obtain ⟨vi, si⟩ := HX.out.2.2.bus bi (fun k => irqd_row x k)
  have ci16 := si.r.cell 16 (.int .u32 g.pc) rfl
  have hF2 := hF wi vi si.b
  go_upto_region 11 with (go_at_call 14; refine hF2.mono ?_; rintro e w3 ⟨rfl, b3⟩)
  obtain ⟨v3, s3⟩ := si.bus b3 (fun k => Iff.rfl)
  clear hF2 bi ci16 hI si
  clear b3 hF c16 c19 c20
  go_upto_region 12 with (first
    | (go_at_call 15; refine (hAp _).mono ?_; rintro e w4 ⟨rfl, k4⟩)
    | (refine wpList_build2 rfl 40 0 1 (.const (.int .i64 1)) (.tmp 74) rfl (.int .i64 1) (.int .i64 (wrap64 (c + 1))) rfl rfl (.agg R0) (hb40 _) ?_)
    | (refine wpList_build4 rfl 65 (.tmp 69) (.tmp 70) (.tmp 72) (.tmp 75) rfl (.pointer (some ⟨G, 0, none⟩)) (.pointer (some ⟨bb, 0, none⟩)) PV (.agg R0) rfl rfl rfl rfl (.agg M0) (hb65 _) ?_)
    | (refine wpList_box_run rfl 65 (.tmp 76) rfl M0 rfl ?_))
  obtain ⟨w5, hw5⟩ : ∃ w5, w5 = w4.alloc (.cells M0 65) := ⟨_, rfl⟩
  rw [← hw5]
  obtain ⟨o5, s5⟩ := (s3.kp k4).mill (W' := w5) ⟨G, bb, op, X, Y, Z, n, r0⟩ rfl rfl (by rw [hMq]; exact hw5)
  have lM := (s3.kp k4).lt
  clear hw5
  generalize w4.heap.size = M at *
  subst hf0
  have p2 := o5.mi.cell 2 (.int .i64 op) rfl
  have bop : ¬ op < 0 := by omega
  have rrP := o5.mi.pr
  obtain ⟨w6, hw6⟩ : ∃ w6, w6 = w5.alloc (.cells z62 62) := ⟨_, rfl⟩
  have k6 : Kp w5 w6 := by rw [hw6]; exact (Chg.refl w5 _).alloc _
  have n6 : w6.heap[w5.heap.size]? = some (.cells z62 62 (0, 0)) := by rw [hw6]; exact heap_alloc_new w5 _
  have hst7 := storeAll w6 62 w5.heap.size _ (prL ⟨G, bb, op, X, Y, Z, n, r0⟩).toArray 62 n6 rfl (by rw [size62]; rfl) (by simpa using prL_one _)
  obtain ⟨w7, hw7⟩ : ∃ w7, w7 = w6.setRow w5.heap.size (prL ⟨G, bb, op, X, Y, Z, n, r0⟩).toArray := ⟨_, rfl⟩
  rw [← hw7] at hst7
  have n7 : w7.heap[w5.heap.size]? = some (.cells (prL ⟨G, bb, op, X, Y, Z, n, r0⟩).toArray 62 (0, 0)) := by rw [hw7]; exact setRow_heap w6 _ _ _ 62 (0, 0) n6
  have k7 : Kp w5 w7 := Chg.trans k6 (show Chg w6 w7 (fun k => k = w5.heap.size) by rw [hw7]; exact Chg.setRow (S := fun k => k = w5.heap.size) (Chg.refl _ _) (.inl rfl) _) (fun i hi e => by omega)
  have b0 : w7.cell? ⟨w5.heap.size, 0, none⟩ = some (.int .i64 op) := by rw [(cells_at n7 0).1]; rfl
  have b1 : w7.cell? ⟨w5.heap.size, 1, none⟩ = some (.int .i64 X) := by rw [(cells_at n7 1).1]; rfl
  have b2 : w7.cell? ⟨w5.heap.size, 2, none⟩ = some (.int .i64 Y) := by rw [(cells_at n7 2).1]; rfl
  have b3 : w7.cell? ⟨w5.heap.size, 3, none⟩ = some (.int .i64 Z) := by rw [(cells_at n7 3).1]; rfl
  have b4 : w7.cell? ⟨w5.heap.size, 4, none⟩ = some (.int .i64 n) := by rw [(cells_at n7 4).1]; rfl
  have o7 := o5.kp k7
  have s7 := s5.kp k7
  have lB : w.heap.size < w5.heap.size := Nat.lt_of_lt_of_le lM (Nat.le_of_lt (hp_lt o5.mi))
  have H7 : Hid (Ro w7 M (g.put 0 0) (((x.irqd).fet g.pc).lvTo v3) ⟨G, bb, op, X, Y, Z, n, r0⟩ ∧ Sa w w7 G bb (g.put 0 0) x (((x.irqd).fet g.pc).lvTo v3) ∧ w.heap.size < M ∧ w7.heap[w5.heap.size]? = some (.cells (prL ⟨G, bb, op, X, Y, Z, n, r0⟩).toArray 62 (0, 0))) := ⟨o7, s7, lM, n7⟩
  have hz62 := fun w => zero62 w
  have u62 := Tryz.underlying62
  have l62 : (Tryz.prog.info? 62).map (·.size) = some (prL ⟨G, bb, op, X, Y, Z, n, r0⟩).length := by kernel_rfl
  have hBq : Hid (w5.heap.size = w5.heap.size) := rfl
  clear hw7 s5 o5 s3 k4 hAp hb40 hb65 hz38 hZ38 HX k6 n6 n7 k7 o7 s7 lM
  generalize hPL : prL ⟨G, bb, op, X, Y, Z, n, r0⟩ = PL at hst7 rrP l62
  generalize z62 = Z62 at hz62 hw6
  subst hw6
  go_upto_region 21 with (first
    | (refine wpList_load_mid rfl 62 (.tmp 113) rfl M 2 rfl PL _ rrP u62 rfl l62 ?_)
    | (refine wpList_alloc_zero _ rfl 62 Z62 rfl (hz62 _) ?_)
    | (refine wpList_store_row rfl 62 (.tmp 11) (.tmp 114) rfl w5.heap.size 0 PL.toArray rfl rfl _ hst7 ?_))
  generalize w5.heap.size = B at *
  have q0 : ¬ op ≤ 12 := by omega
  have q1 : ¬ op ≤ 21 := by omega
  have q2 : ¬ op ≤ 27 := by omega
  have q3 : ¬ op ≤ 30 := by omega
  have q4 : ¬ op ≤ 36 := by omega
  have q22 : ¬ op = 22 := by omega
  have hC := HC.out w7 M v3 (by rw [← hr0]; exact H7.out.1)
  go_upto_region 39 with (go_at_call 22; refine hC.mono ?_; rintro e w8 ⟨rfl, hv8⟩)
  obtain ⟨v9, S8, M8⟩ := H7.out.2.1.rv H7.out.2.2.1 rfl rfl hv8 (fun k => HZ.out.2 v3 k)
  rw [HZ.out.1] at S8
  have HR : Hid (IsMi w8 M ⟨G, bb, op, X, Y, Z, n, r'⟩) := M8
  have HS : Hid (Sa w w8 G bb g' x (z0.lvTo v9)) := S8
  clear hC hv8 S8 M8 H7 HC HZ b0 b1 b2 b3 b4
  have rr8 := HR.out.rs
  have hst := storeAll w8 40 w.heap.size _ (rsc (r')).toArray 40 HS.out.res rfl (by rw [size38]; rfl) (by simpa using rsc_one _)
  obtain ⟨hE, n8⟩ := HS.out.done (r')
  have HE : Hid (Sp w G bb x (g') (z0) _) := hE
  have u38 := Tryz.underlying40
  have l38 : (Tryz.prog.info? 40).map (·.size) = some (rsc (r')).length := by kernel_rfl
  clear hE HR HS
  generalize hrs : rsc (r') = RS at *
  obtain ⟨w9, hw9⟩ : ∃ w9, w9 = w8.setRow w.heap.size RS.toArray := ⟨_, rfl⟩
  rw [← hw9] at hst n8 HE
  clear hw9
  go_wp2_with (first
    | (refine wpList_load_mid rfl 40 (.tmp 256) rfl M 7 rfl RS _ rr8 u38 rfl l38 ?_)
    | (refine wpList_store_row rfl 40 (.tmp 4) (.tmp 257) rfl w.heap.size 0 RS.toArray rfl rfl _ hst ?_))
  refine ⟨rfl, .agg RS.toArray, ?_, by rw [← hrs], HE.out⟩
  refine results_cell_row rfl _ _ w.heap.size 40 RS.toArray (0, 0) _ rfl n8 Tryz.underlying40 rfl ?_
  rw [size38, ← hrs]; rfl
end Go.Proofs.YtghiffpolacmiabGreatDoor
