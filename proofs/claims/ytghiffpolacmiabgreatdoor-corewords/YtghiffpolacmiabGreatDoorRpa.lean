import Derived.Test.YtghiffpolacmiabGreatDoorRq
import Derived.Test.YtghiffpolacmiabGreatDoorRc
namespace Go.Proofs.YtghiffpolacmiabGreatDoor
open Go.ChangeShapes Go.WideShapes Go.ChangeAt Go.RowKit
set_option linter.unusedVariables false

set_option maxRecDepth 100000 in
set_option maxHeartbeats 4000000 in
theorem rstep_bry_a (w : World) (G bb : Nat) (g : Rg) (x : Bd) (h : Rb w G bb g x) (hx : x.le 9990) (ho : g.on = false) (op n : Int) (X Y Z : Nat) (vw : Nat) (f c : Int) (hvw : nxt (x).ws (x).iw = (vw : Nat)) (hf : nxt (x).fa (x).jf = f) (hc : nxt (x).cy (x).ic = c)
    (hAp : ∀ V, Calls Tryz.prog 15 #[.int .u32 (vw : Nat)] V fun e w' => e = .returned (prV op X Y Z n) ∧ Kp V w') (hf0 : f = 0) (hlo : 31 ≤ op) (hhi : op ≤ 36) (hX16 : X < 16) (hY16 : Y < 16) (a b t : Int) (ha : (g.put 0 0).R X = a) (hb : (g.put 0 0).R Y = b) (ht : (g.pc + 4 * (n % 4294967296) % 4294967296) % 4294967296 = t)
    (hT : ∀ V, Calls Tryz.prog 21 #[.int .i64 op, .int .u32 a, .int .u32 b] V fun e w' => e = .returned (.bool true) ∧ Kp V w') :
    Calls Tryz.prog 7 #[.pointer (some ⟨G, 0, none⟩), .pointer (some ⟨bb, 0, none⟩)] w fun e w' => e = .returned (.agg (rsc ({ Rs.zero with kind := 1, cyc := wrap64 (c + 1) })).toArray) ∧ Sp w G bb x (((g.put 0 0).pcTo (t))) ((x).fet g.pc) w' := by
  have HT : Hid ((∀ V, Calls Tryz.prog 21 #[.int .i64 op, .int .u32 a, .int .u32 b] V fun e w' => e = .returned (.bool true) ∧ Kp V w') ∧ (g.pc + 4 * (n % 4294967296) % 4294967296) % 4294967296 = t) := ⟨hT, ht⟩
  clear hT ht
  obtain ⟨w1, hw1⟩ : ∃ w1, w1 = w.alloc (.cells (rsc Rs.zero).toArray 40) := ⟨_, rfl⟩
  have s1 : Sa w w1 G bb g x x := by rw [hw1]; exact Sa.init h
  have c0 := s1.r.cell 0 _ rfl
  have f0 := s1.r.fr 0
  obtain ⟨r2, k2⟩ := s1.r.set 0 (.int .u32 0) (g.put 0 0) rfl
  have s2 := s1.rset r2 k2
  obtain ⟨w2, hw2⟩ : ∃ w2, w2 = w1.setCell ⟨G, 0, none⟩ (.int .u32 0) := ⟨_, rfl⟩
  rw [← hw2] at s2
  have HW2 : Hid (w2 = w1.setCell ⟨G, 0, none⟩ (.int .u32 0)) := hw2
  clear hw2
  have c19 := s2.r.cell 19 (.bool g.on) rfl
  have c20 := s2.r.cell 20 (.bool g.hd) rfl
  have c16 := s2.r.cell 16 (.int .u32 g.pc) rfl
  rw [ho] at c19
  have HX : Hid (Rb w G bb g x ∧ x.le 9990 ∧ Sa w w2 G bb (g.put 0 0) x x) := ⟨h, hx, s2⟩
  have hF := fun W v (r : IsB W bb (x.lvTo v)) => fetch_any W bb (x.lvTo v) r (hx.more (by omega)) g.pc
  have hf' : ∀ v, nxt (x.lvTo v).fa (x.lvTo v).jf = f := fun v => hf
  have hc' : ∀ v, nxt (x.lvTo v).cy (x.lvTo v).ic = c := fun v => hc
  have hw' : ∀ v, nxt (x.lvTo v).ws (x.lvTo v).iw = (vw : Nat) := fun v => hvw
  simp only [hf', hc', hw'] at hF
  have hz38 := fun w => zero38 w
  have hb40 := fun W => bld40 W (wrap64 (c + 1))
  obtain ⟨r0, hr0⟩ : ∃ r0, r0 = ({ Rs.zero with kind := 1, cyc := wrap64 (c + 1) } : Rs) := ⟨_, rfl⟩
  rw [← hr0] at hb40
  have hb65 := fun W => bld65 W G bb op X Y Z n r0
  clear h hx s1 s2 r2 k2 hf' hc' hw'
  have hZ38 : (rsc Rs.zero).toArray.size = 10 := rfl
  have hZ39 : Hid ((rsc Rs.zero).toArray = (rsc Rs.zero).toArray) := rfl
  generalize hZq : (rsc Rs.zero).toArray = Z38 at hz38 hw1
  generalize hRq : (rsc r0).toArray = R0 at hb40 hb65
  generalize hMq : (mic ⟨G, bb, op, X, Y, Z, n, r0⟩).toArray = M0 at hb65
  generalize hPq : prV op X Y Z n = PV at hb65 hAp
  go_enter Tryz.func7, Tryz.ntmps7
  go_upto_region 1 with (refine wpList_alloc_zero _ rfl 40 Z38 rfl (hz38 _) ?_)
  rw [← hw1]
  clear hw1
  go_upto_region 2 with (fail)
  rw [← HW2.out]
  clear HW2 c0 f0
  have hF2 := hF w2 x.lv HX.out.2.2.b
  go_upto_region 11 with (go_at_call 14; refine hF2.mono ?_; rintro e w3 ⟨rfl, b3⟩)
  obtain ⟨v3, s3⟩ := HX.out.2.2.bus b3 (fun k => Iff.rfl)
  clear hF2
  clear b3 hF c16 c19 c20
  go_upto_region 12 with (first
    | (go_at_call 15; refine (hAp _).mono ?_; rintro e w4 ⟨rfl, k4⟩)
    | (refine wpList_build2 rfl 40 0 1 (.const (.int .i64 1)) (.tmp 74) rfl (.int .i64 1) (.int .i64 (wrap64 (c + 1))) rfl rfl (.agg R0) (hb40 _) ?_)
    | (refine wpList_build4 rfl 65 (.tmp 69) (.tmp 70) (.tmp 72) (.tmp 75) rfl (.pointer (some ⟨G, 0, none⟩)) (.pointer (some ⟨bb, 0, none⟩)) PV (.agg R0) rfl rfl rfl rfl (.agg M0) (hb65 _) ?_)
    | (refine wpList_box_run rfl 65 (.tmp 76) rfl M0 rfl ?_))
  obtain ⟨w5, hw5⟩ : ∃ w5, w5 = w4.alloc (.cells M0 65) := ⟨_, rfl⟩
  rw [← hw5]
  obtain ⟨o5, s5⟩ := (s3.kp k4).mill (W' := w5) ⟨G, bb, op, X, Y, Z, n, r0⟩ rfl rfl (by rw [hMq]; exact hw5)
  have lM := (s3.kp k4).lt
  clear hw5
  generalize w4.heap.size = M at *
  subst hf0
  have p2 := o5.mi.cell 2 (.int .i64 op) rfl
  have bop : ¬ op < 0 := by omega
  have rrP := o5.mi.pr
  obtain ⟨w6, hw6⟩ : ∃ w6, w6 = w5.alloc (.cells z62 62) := ⟨_, rfl⟩
  have k6 : Kp w5 w6 := by rw [hw6]; exact (Chg.refl w5 _).alloc _
  have n6 : w6.heap[w5.heap.size]? = some (.cells z62 62 (0, 0)) := by rw [hw6]; exact heap_alloc_new w5 _
  have hst7 := storeAll w6 62 w5.heap.size _ (prL ⟨G, bb, op, X, Y, Z, n, r0⟩).toArray 62 n6 rfl (by rw [size62]; rfl) (by simpa using prL_one _)
  obtain ⟨w7, hw7⟩ : ∃ w7, w7 = w6.setRow w5.heap.size (prL ⟨G, bb, op, X, Y, Z, n, r0⟩).toArray := ⟨_, rfl⟩
  rw [← hw7] at hst7
  have n7 : w7.heap[w5.heap.size]? = some (.cells (prL ⟨G, bb, op, X, Y, Z, n, r0⟩).toArray 62 (0, 0)) := by rw [hw7]; exact setRow_heap w6 _ _ _ 62 (0, 0) n6
  have k7 : Kp w5 w7 := Chg.trans k6 (show Chg w6 w7 (fun k => k = w5.heap.size) by rw [hw7]; exact Chg.setRow (S := fun k => k = w5.heap.size) (Chg.refl _ _) (.inl rfl) _) (fun i hi e => by omega)
  have b0 : w7.cell? ⟨w5.heap.size, 0, none⟩ = some (.int .i64 op) := by rw [(cells_at n7 0).1]; rfl
  have b1 : w7.cell? ⟨w5.heap.size, 1, none⟩ = some (.int .i64 X) := by rw [(cells_at n7 1).1]; rfl
  have b2 : w7.cell? ⟨w5.heap.size, 2, none⟩ = some (.int .i64 Y) := by rw [(cells_at n7 2).1]; rfl
  have b3 : w7.cell? ⟨w5.heap.size, 3, none⟩ = some (.int .i64 Z) := by rw [(cells_at n7 3).1]; rfl
  have b4 : w7.cell? ⟨w5.heap.size, 4, none⟩ = some (.int .i64 n) := by rw [(cells_at n7 4).1]; rfl
  have o7 := o5.kp k7
  have s7 := s5.kp k7
  have lB : w.heap.size < w5.heap.size := Nat.lt_of_lt_of_le lM (Nat.le_of_lt (hp_lt o5.mi))
  have H7 : Hid (Ro w7 M (g.put 0 0) (((x).fet g.pc).lvTo v3) ⟨G, bb, op, X, Y, Z, n, r0⟩ ∧ Sa w w7 G bb (g.put 0 0) x (((x).fet g.pc).lvTo v3) ∧ w.heap.size < M ∧ w7.heap[w5.heap.size]? = some (.cells (prL ⟨G, bb, op, X, Y, Z, n, r0⟩).toArray 62 (0, 0))) := ⟨o7, s7, lM, n7⟩
  have hz62 := fun w => zero62 w
  have u62 := Tryz.underlying62
  have l62 : (Tryz.prog.info? 62).map (·.size) = some (prL ⟨G, bb, op, X, Y, Z, n, r0⟩).length := by kernel_rfl
  have hBq : Hid (w5.heap.size = w5.heap.size) := rfl
  clear hw7 s5 o5 s3 k4 hAp hb40 hb65 hz38 hZ38 HX k6 n6 n7 k7 o7 s7 lM
  generalize hPL : prL ⟨G, bb, op, X, Y, Z, n, r0⟩ = PL at hst7 rrP l62
  generalize z62 = Z62 at hz62 hw6
  subst hw6
  go_upto_region 21 with (first
    | (refine wpList_load_mid rfl 62 (.tmp 113) rfl M 2 rfl PL _ rrP u62 rfl l62 ?_)
    | (refine wpList_alloc_zero _ rfl 62 Z62 rfl (hz62 _) ?_)
    | (refine wpList_store_row rfl 62 (.tmp 11) (.tmp 114) rfl w5.heap.size 0 PL.toArray rfl rfl _ hst7 ?_))
  generalize w5.heap.size = B at *
  subst hr0
  clear hRq hMq
  have hr7 := H7.out.1
  have gX := hr7.r.cell X _ (rgc_R (g.put 0 0) X hX16)
  have gY := hr7.r.cell Y _ (rgc_R (g.put 0 0) Y hY16)
  rw [ha] at gX
  rw [hb] at gY
  have q0 : ¬ op ≤ 12 := by omega
  have q1 : ¬ op ≤ 21 := by omega
  have q2 : ¬ op ≤ 27 := by omega
  have q3 : ¬ op ≤ 30 := by omega
  have q22 : ¬ op = 22 := by omega
  have qh : op ≤ 36 := by omega
  go_upto_region 35 with (fail)
  refine reg7_35 w7 G M B op X Y a b true (by omega) (by omega) b0 b1 b2 gX gY HT.out.1 _ (fun _ _ _ q _ h => by cases q <;> exact h) ?_
  rintro w8 kV
  clear gX gY
  have S8 := H7.out.2.1.kp kV
  have p16 := S8.r.cell 16 (.int .u32 g.pc) rfl
  have q16 := S8.r.fr 16
  have c4 := Kp.cell kV b4
  obtain ⟨r9, k9⟩ := S8.r.set 16 (.int .u32 (t)) ((g.put 0 0).pcTo (t)) rfl
  have S9 := S8.rset r9 k9
  have M9 := (hr7.kp kV).mi.chg k9 (by have := hr7.ne; exact this)
  have S9 := S9.kp ((Kp.refl _).drew)
  have M9 := M9.chg (Kp.refl _).drew (fun e => e)
  obtain ⟨w9, hw9⟩ : ∃ w9, w9 = (w8.setCell ⟨G, 16, none⟩ (.int .u32 (t))).drew := ⟨_, rfl⟩
  have HW9 : Hid (w9 = (w8.setCell ⟨G, 16, none⟩ (.int .u32 (t))).drew) := hw9
  rw [← hw9] at S9 M9
  have HR : Hid (IsMi w9 M ⟨G, bb, op, X, Y, Z, n, { Rs.zero with kind := 1, cyc := wrap64 (c + 1) }⟩) := M9
  have HS : Hid (Sa w w9 G bb ((g.put 0 0).pcTo (t)) x (((x).fet g.pc).lvTo v3)) := S9
  clear hw9 S8 r9 k9 S9 M9 H7 hr7 b0 b1 b2 b3 b4 kV
  have ht := HT.out.2
  go_upto_region 37 with (fail)
  go_region
  go_upto_region 39 with (fail)
  rw [← HW9.out]
  clear HW9 p16 q16 c4 HT
  have rr8 := HR.out.rs
  have hst := storeAll w9 40 w.heap.size _ (rsc ({ Rs.zero with kind := 1, cyc := wrap64 (c + 1) })).toArray 40 HS.out.res rfl (by rw [size38]; rfl) (by simpa using rsc_one _)
  obtain ⟨hE, n8⟩ := HS.out.done ({ Rs.zero with kind := 1, cyc := wrap64 (c + 1) })
  have HE : Hid (Sp w G bb x (((g.put 0 0).pcTo (t))) ((x).fet g.pc) _) := hE
  have u38 := Tryz.underlying40
  have l38 : (Tryz.prog.info? 40).map (·.size) = some (rsc ({ Rs.zero with kind := 1, cyc := wrap64 (c + 1) })).length := by kernel_rfl
  clear hE HR HS
  generalize hrs : rsc ({ Rs.zero with kind := 1, cyc := wrap64 (c + 1) }) = RS at *
  obtain ⟨wA, hwA⟩ : ∃ wA, wA = w9.setRow w.heap.size RS.toArray := ⟨_, rfl⟩
  rw [← hwA] at hst n8 HE
  clear hwA
  go_wp2_with (first
    | (refine wpList_load_mid rfl 40 (.tmp 256) rfl M 7 rfl RS _ rr8 u38 rfl l38 ?_)
    | (refine wpList_store_row rfl 40 (.tmp 4) (.tmp 257) rfl w.heap.size 0 RS.toArray rfl rfl _ hst ?_))
  refine ⟨rfl, .agg RS.toArray, ?_, by rw [← hrs], HE.out⟩
  refine results_cell_row rfl _ _ w.heap.size 40 RS.toArray (0, 0) _ rfl n8 Tryz.underlying40 rfl ?_
  rw [size38, ← hrs]; rfl
set_option maxRecDepth 100000 in
set_option maxHeartbeats 4000000 in
theorem rstep_brn_a (w : World) (G bb : Nat) (g : Rg) (x : Bd) (h : Rb w G bb g x) (hx : x.le 9990) (ho : g.on = false) (op n : Int) (X Y Z : Nat) (vw : Nat) (f c : Int) (hvw : nxt (x).ws (x).iw = (vw : Nat)) (hf : nxt (x).fa (x).jf = f) (hc : nxt (x).cy (x).ic = c)
    (hAp : ∀ V, Calls Tryz.prog 15 #[.int .u32 (vw : Nat)] V fun e w' => e = .returned (prV op X Y Z n) ∧ Kp V w') (hf0 : f = 0) (hlo : 31 ≤ op) (hhi : op ≤ 36) (hX16 : X < 16) (hY16 : Y < 16) (a b t : Int) (ha : (g.put 0 0).R X = a) (hb : (g.put 0 0).R Y = b) (ht : (g.pc + 4 * (n % 4294967296) % 4294967296) % 4294967296 = t)
    (hT : ∀ V, Calls Tryz.prog 21 #[.int .i64 op, .int .u32 a, .int .u32 b] V fun e w' => e = .returned (.bool false) ∧ Kp V w') :
    Calls Tryz.prog 7 #[.pointer (some ⟨G, 0, none⟩), .pointer (some ⟨bb, 0, none⟩)] w fun e w' => e = .returned (.agg (rsc ({ Rs.zero with kind := 1, cyc := wrap64 (c + 1) })).toArray) ∧ Sp w G bb x (((g.put 0 0).pcTo ((g.pc + 4) % 4294967296))) ((x).fet g.pc) w' := by
  have HT : Hid ((∀ V, Calls Tryz.prog 21 #[.int .i64 op, .int .u32 a, .int .u32 b] V fun e w' => e = .returned (.bool false) ∧ Kp V w') ∧ (g.pc + 4 * (n % 4294967296) % 4294967296) % 4294967296 = t) := ⟨hT, ht⟩
  clear hT ht
  obtain ⟨w1, hw1⟩ : ∃ w1, w1 = w.alloc (.cells (rsc Rs.zero).toArray 40) := ⟨_, rfl⟩
  have s1 : Sa w w1 G bb g x x := by rw [hw1]; exact Sa.init h
  have c0 := s1.r.cell 0 _ rfl
  have f0 := s1.r.fr 0
  obtain ⟨r2, k2⟩ := s1.r.set 0 (.int .u32 0) (g.put 0 0) rfl
  have s2 := s1.rset r2 k2
  obtain ⟨w2, hw2⟩ : ∃ w2, w2 = w1.setCell ⟨G, 0, none⟩ (.int .u32 0) := ⟨_, rfl⟩
  rw [← hw2] at s2
  have HW2 : Hid (w2 = w1.setCell ⟨G, 0, none⟩ (.int .u32 0)) := hw2
  clear hw2
  have c19 := s2.r.cell 19 (.bool g.on) rfl
  have c20 := s2.r.cell 20 (.bool g.hd) rfl
  have c16 := s2.r.cell 16 (.int .u32 g.pc) rfl
  rw [ho] at c19
  have HX : Hid (Rb w G bb g x ∧ x.le 9990 ∧ Sa w w2 G bb (g.put 0 0) x x) := ⟨h, hx, s2⟩
  have hF := fun W v (r : IsB W bb (x.lvTo v)) => fetch_any W bb (x.lvTo v) r (hx.more (by omega)) g.pc
  have hf' : ∀ v, nxt (x.lvTo v).fa (x.lvTo v).jf = f := fun v => hf
  have hc' : ∀ v, nxt (x.lvTo v).cy (x.lvTo v).ic = c := fun v => hc
  have hw' : ∀ v, nxt (x.lvTo v).ws (x.lvTo v).iw = (vw : Nat) := fun v => hvw
  simp only [hf', hc', hw'] at hF
  have hz38 := fun w => zero38 w
  have hb40 := fun W => bld40 W (wrap64 (c + 1))
  obtain ⟨r0, hr0⟩ : ∃ r0, r0 = ({ Rs.zero with kind := 1, cyc := wrap64 (c + 1) } : Rs) := ⟨_, rfl⟩
  rw [← hr0] at hb40
  have hb65 := fun W => bld65 W G bb op X Y Z n r0
  clear h hx s1 s2 r2 k2 hf' hc' hw'
  have hZ38 : (rsc Rs.zero).toArray.size = 10 := rfl
  have hZ39 : Hid ((rsc Rs.zero).toArray = (rsc Rs.zero).toArray) := rfl
  generalize hZq : (rsc Rs.zero).toArray = Z38 at hz38 hw1
  generalize hRq : (rsc r0).toArray = R0 at hb40 hb65
  generalize hMq : (mic ⟨G, bb, op, X, Y, Z, n, r0⟩).toArray = M0 at hb65
  generalize hPq : prV op X Y Z n = PV at hb65 hAp
  go_enter Tryz.func7, Tryz.ntmps7
  go_upto_region 1 with (refine wpList_alloc_zero _ rfl 40 Z38 rfl (hz38 _) ?_)
  rw [← hw1]
  clear hw1
  go_upto_region 2 with (fail)
  rw [← HW2.out]
  clear HW2 c0 f0
  have hF2 := hF w2 x.lv HX.out.2.2.b
  go_upto_region 11 with (go_at_call 14; refine hF2.mono ?_; rintro e w3 ⟨rfl, b3⟩)
  obtain ⟨v3, s3⟩ := HX.out.2.2.bus b3 (fun k => Iff.rfl)
  clear hF2
  clear b3 hF c16 c19 c20
  go_upto_region 12 with (first
    | (go_at_call 15; refine (hAp _).mono ?_; rintro e w4 ⟨rfl, k4⟩)
    | (refine wpList_build2 rfl 40 0 1 (.const (.int .i64 1)) (.tmp 74) rfl (.int .i64 1) (.int .i64 (wrap64 (c + 1))) rfl rfl (.agg R0) (hb40 _) ?_)
    | (refine wpList_build4 rfl 65 (.tmp 69) (.tmp 70) (.tmp 72) (.tmp 75) rfl (.pointer (some ⟨G, 0, none⟩)) (.pointer (some ⟨bb, 0, none⟩)) PV (.agg R0) rfl rfl rfl rfl (.agg M0) (hb65 _) ?_)
    | (refine wpList_box_run rfl 65 (.tmp 76) rfl M0 rfl ?_))
  obtain ⟨w5, hw5⟩ : ∃ w5, w5 = w4.alloc (.cells M0 65) := ⟨_, rfl⟩
  rw [← hw5]
  obtain ⟨o5, s5⟩ := (s3.kp k4).mill (W' := w5) ⟨G, bb, op, X, Y, Z, n, r0⟩ rfl rfl (by rw [hMq]; exact hw5)
  have lM := (s3.kp k4).lt
  clear hw5
  generalize w4.heap.size = M at *
  subst hf0
  have p2 := o5.mi.cell 2 (.int .i64 op) rfl
  have bop : ¬ op < 0 := by omega
  have rrP := o5.mi.pr
  obtain ⟨w6, hw6⟩ : ∃ w6, w6 = w5.alloc (.cells z62 62) := ⟨_, rfl⟩
  have k6 : Kp w5 w6 := by rw [hw6]; exact (Chg.refl w5 _).alloc _
  have n6 : w6.heap[w5.heap.size]? = some (.cells z62 62 (0, 0)) := by rw [hw6]; exact heap_alloc_new w5 _
  have hst7 := storeAll w6 62 w5.heap.size _ (prL ⟨G, bb, op, X, Y, Z, n, r0⟩).toArray 62 n6 rfl (by rw [size62]; rfl) (by simpa using prL_one _)
  obtain ⟨w7, hw7⟩ : ∃ w7, w7 = w6.setRow w5.heap.size (prL ⟨G, bb, op, X, Y, Z, n, r0⟩).toArray := ⟨_, rfl⟩
  rw [← hw7] at hst7
  have n7 : w7.heap[w5.heap.size]? = some (.cells (prL ⟨G, bb, op, X, Y, Z, n, r0⟩).toArray 62 (0, 0)) := by rw [hw7]; exact setRow_heap w6 _ _ _ 62 (0, 0) n6
  have k7 : Kp w5 w7 := Chg.trans k6 (show Chg w6 w7 (fun k => k = w5.heap.size) by rw [hw7]; exact Chg.setRow (S := fun k => k = w5.heap.size) (Chg.refl _ _) (.inl rfl) _) (fun i hi e => by omega)
  have b0 : w7.cell? ⟨w5.heap.size, 0, none⟩ = some (.int .i64 op) := by rw [(cells_at n7 0).1]; rfl
  have b1 : w7.cell? ⟨w5.heap.size, 1, none⟩ = some (.int .i64 X) := by rw [(cells_at n7 1).1]; rfl
  have b2 : w7.cell? ⟨w5.heap.size, 2, none⟩ = some (.int .i64 Y) := by rw [(cells_at n7 2).1]; rfl
  have b3 : w7.cell? ⟨w5.heap.size, 3, none⟩ = some (.int .i64 Z) := by rw [(cells_at n7 3).1]; rfl
  have b4 : w7.cell? ⟨w5.heap.size, 4, none⟩ = some (.int .i64 n) := by rw [(cells_at n7 4).1]; rfl
  have o7 := o5.kp k7
  have s7 := s5.kp k7
  have lB : w.heap.size < w5.heap.size := Nat.lt_of_lt_of_le lM (Nat.le_of_lt (hp_lt o5.mi))
  have H7 : Hid (Ro w7 M (g.put 0 0) (((x).fet g.pc).lvTo v3) ⟨G, bb, op, X, Y, Z, n, r0⟩ ∧ Sa w w7 G bb (g.put 0 0) x (((x).fet g.pc).lvTo v3) ∧ w.heap.size < M ∧ w7.heap[w5.heap.size]? = some (.cells (prL ⟨G, bb, op, X, Y, Z, n, r0⟩).toArray 62 (0, 0))) := ⟨o7, s7, lM, n7⟩
  have hz62 := fun w => zero62 w
  have u62 := Tryz.underlying62
  have l62 : (Tryz.prog.info? 62).map (·.size) = some (prL ⟨G, bb, op, X, Y, Z, n, r0⟩).length := by kernel_rfl
  have hBq : Hid (w5.heap.size = w5.heap.size) := rfl
  clear hw7 s5 o5 s3 k4 hAp hb40 hb65 hz38 hZ38 HX k6 n6 n7 k7 o7 s7 lM
  generalize hPL : prL ⟨G, bb, op, X, Y, Z, n, r0⟩ = PL at hst7 rrP l62
  generalize z62 = Z62 at hz62 hw6
  subst hw6
  go_upto_region 21 with (first
    | (refine wpList_load_mid rfl 62 (.tmp 113) rfl M 2 rfl PL _ rrP u62 rfl l62 ?_)
    | (refine wpList_alloc_zero _ rfl 62 Z62 rfl (hz62 _) ?_)
    | (refine wpList_store_row rfl 62 (.tmp 11) (.tmp 114) rfl w5.heap.size 0 PL.toArray rfl rfl _ hst7 ?_))
  generalize w5.heap.size = B at *
  subst hr0
  clear hRq hMq
  have hr7 := H7.out.1
  have gX := hr7.r.cell X _ (rgc_R (g.put 0 0) X hX16)
  have gY := hr7.r.cell Y _ (rgc_R (g.put 0 0) Y hY16)
  rw [ha] at gX
  rw [hb] at gY
  have q0 : ¬ op ≤ 12 := by omega
  have q1 : ¬ op ≤ 21 := by omega
  have q2 : ¬ op ≤ 27 := by omega
  have q3 : ¬ op ≤ 30 := by omega
  have q22 : ¬ op = 22 := by omega
  have qh : op ≤ 36 := by omega
  go_upto_region 35 with (fail)
  refine reg7_35 w7 G M B op X Y a b false (by omega) (by omega) b0 b1 b2 gX gY HT.out.1 _ (fun _ _ _ q _ h => by cases q <;> exact h) ?_
  rintro w8 kV
  clear gX gY
  have S8 := H7.out.2.1.kp kV
  have p16 := S8.r.cell 16 (.int .u32 g.pc) rfl
  have q16 := S8.r.fr 16
  have c4 := Kp.cell kV b4
  obtain ⟨r9, k9⟩ := S8.r.set 16 (.int .u32 ((g.pc + 4) % 4294967296)) ((g.put 0 0).pcTo ((g.pc + 4) % 4294967296)) rfl
  have S9 := S8.rset r9 k9
  have M9 := (hr7.kp kV).mi.chg k9 (by have := hr7.ne; exact this)
  obtain ⟨w9, hw9⟩ : ∃ w9, w9 = (w8.setCell ⟨G, 16, none⟩ (.int .u32 ((g.pc + 4) % 4294967296))) := ⟨_, rfl⟩
  have HW9 : Hid (w9 = (w8.setCell ⟨G, 16, none⟩ (.int .u32 ((g.pc + 4) % 4294967296)))) := hw9
  rw [← hw9] at S9 M9
  have HR : Hid (IsMi w9 M ⟨G, bb, op, X, Y, Z, n, { Rs.zero with kind := 1, cyc := wrap64 (c + 1) }⟩) := M9
  have HS : Hid (Sa w w9 G bb ((g.put 0 0).pcTo ((g.pc + 4) % 4294967296)) x (((x).fet g.pc).lvTo v3)) := S9
  clear hw9 S8 r9 k9 S9 M9 H7 hr7 b0 b1 b2 b3 b4 kV
  go_upto_region 39 with (fail)
  rw [← HW9.out]
  clear HW9 p16 q16 c4 HT
  have rr8 := HR.out.rs
  have hst := storeAll w9 40 w.heap.size _ (rsc ({ Rs.zero with kind := 1, cyc := wrap64 (c + 1) })).toArray 40 HS.out.res rfl (by rw [size38]; rfl) (by simpa using rsc_one _)
  obtain ⟨hE, n8⟩ := HS.out.done ({ Rs.zero with kind := 1, cyc := wrap64 (c + 1) })
  have HE : Hid (Sp w G bb x (((g.put 0 0).pcTo ((g.pc + 4) % 4294967296))) ((x).fet g.pc) _) := hE
  have u38 := Tryz.underlying40
  have l38 : (Tryz.prog.info? 40).map (·.size) = some (rsc ({ Rs.zero with kind := 1, cyc := wrap64 (c + 1) })).length := by kernel_rfl
  clear hE HR HS
  generalize hrs : rsc ({ Rs.zero with kind := 1, cyc := wrap64 (c + 1) }) = RS at *
  obtain ⟨wA, hwA⟩ : ∃ wA, wA = w9.setRow w.heap.size RS.toArray := ⟨_, rfl⟩
  rw [← hwA] at hst n8 HE
  clear hwA
  go_wp2_with (first
    | (refine wpList_load_mid rfl 40 (.tmp 256) rfl M 7 rfl RS _ rr8 u38 rfl l38 ?_)
    | (refine wpList_store_row rfl 40 (.tmp 4) (.tmp 257) rfl w.heap.size 0 RS.toArray rfl rfl _ hst ?_))
  refine ⟨rfl, .agg RS.toArray, ?_, by rw [← hrs], HE.out⟩
  refine results_cell_row rfl _ _ w.heap.size 40 RS.toArray (0, 0) _ rfl n8 Tryz.underlying40 rfl ?_
  rw [size38, ← hrs]; rfl
end Go.Proofs.YtghiffpolacmiabGreatDoor
