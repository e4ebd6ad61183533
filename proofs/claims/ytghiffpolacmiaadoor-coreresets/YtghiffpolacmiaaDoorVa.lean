import Derived.Test.YtghiffpolacmiaaDoorUy
namespace Go.Proofs.YtghiffpolacmiaaDoor
open Go.ChangeShapes Go.WideShapes Go.ChangeAt Go.RowKit
set_option linter.unusedVariables false

/-- As the law lays them: interrupts are taken, none is under way. -/
def Rg.on1 (g : Rg) : Rg := ⟨upR g.R 0 0, g.pc, g.vec, g.back, true, false⟩
theorem zero25 (w : World) : (zeroValue 25).run Tryd.prog w = .ok (.agg (rgc Rg.zero).toArray) w := zeroOf w (by kernel_rfl)
/-- The bus behind an interrupt, with a line again; and behind one more word. -/
def litY (q : Nat) (wd : Int) (v : Value) : Bd := ⟨.slice (some ⟨q, 0, none⟩) 2 2, .slice none 0 0, .slice none 0 0, .slice none 0 0, [3019898880, wd], [], [], [], 0, 7, false, v, [⟨105, 0, 0, 0⟩], 0, 0, 0, 0⟩
def litZ (q : Nat) (wd pc : Int) (v : Value) : Bd := ⟨.slice (some ⟨q, 0, none⟩) 2 2, .slice none 0 0, .slice none 0 0, .slice none 0 0, [3019898880, wd], [], [], [], 0, 7, false, v, [⟨105, 0, 0, 0⟩, ⟨102, pc, 0, 0⟩], 1, 0, 1, 1⟩
theorem er_r (gg : Rg) (n : Int) (bb q : Nat) (wd : Int) (v : Value) : rsc (insS ((gg.taken n).st bb) (litY q wd v)).r = [.int .i64 1, .int .i64 1, .int .u32 0, .int .i64 0, .int .u32 0, .int .i64 0, .bool false, .int .u32 0, .bool false, .int .u64 0] := by kernel_rfl
theorem er_g (gg : Rg) (n : Int) (bb q : Nat) (wd : Int) (v : Value) : (insS ((gg.taken n).st bb) (litY q wd v)).g = ⟨upR (upR gg.R 14 (n % 4294967296)) 0 0, gg.pc, gg.vec, gg.pc, gg.on, false⟩ := by kernel_rfl
theorem er_B (gg : Rg) (n : Int) (bb q : Nat) (wd : Int) (v : Value) : insB ((gg.taken n).st bb) (litY q wd v) = litZ q wd gg.vec v := by kernel_rfl
theorem ws2_ok (wd : Int) (hwd : 0 ≤ wd ∧ wd < 4294967296) (i : Nat) : 0 ≤ nxt [3019898880, wd] i ∧ nxt [3019898880, wd] i < 4294967296 := by
  unfold nxt
  rcases Nat.eq_zero_or_pos i with h | h
  · subst h; show (0 : Int) ≤ 3019898880 ∧ (3019898880 : Int) < _; omega
  · rw [show min i ([(3019898880 : Int), wd].length - 1) = 1 by simp; omega]
    exact hwd
theorem litY_ok (q : Nat) (wd : Int) (v : Value) (hwd : 0 ≤ wd ∧ wd < 4294967296) : (litY q wd v).ok :=
  ⟨⟨by show 0 ≤ 9990; omega, by show 0 ≤ 9990; omega, by show 0 ≤ 9990; omega, by show 0 ≤ 9990; omega, by show 1 ≤ 9990; omega⟩, by show (0 : Int) ≤ 0 ∧ (0 : Int) < _; omega, fun i => by show (0 : Int) ≤ 0 ∧ (0 : Int) < _; omega, ws2_ok wd hwd⟩
theorem litZ_ok (q : Nat) (wd pc : Int) (v : Value) (hwd : 0 ≤ wd ∧ wd < 4294967296) : (litZ q wd pc v).ok :=
  ⟨⟨by show 1 ≤ 9990; omega, by show 0 ≤ 9990; omega, by show 1 ≤ 9990; omega, by show 1 ≤ 9990; omega, by show 2 ≤ 9990; omega⟩, by show (0 : Int) ≤ 0 ∧ (0 : Int) < _; omega, fun i => by show (0 : Int) ≤ 0 ∧ (0 : Int) < _; omega, ws2_ok wd hwd⟩
theorem litB_irqd (q : Nat) (wd n : Int) (h : 0 ≤ n) (v : Value) : ({ (litB q 2 [3019898880, wd] n).irqd.lvTo v with ln := 7 } : Bd) = litY q wd v := by
  have hi : (litB q 2 [3019898880, wd] n).irq = true := by show (!(decide (n < 0) && !false)) = true; rw [decide_eq_false (by omega)]; rfl
  unfold Bd.irqd
  rw [hi]
  rfl
set_option maxRecDepth 100000 in
set_option maxHeartbeats 4000000 in
theorem back_walk (w : World) (hg : Gt w) (h2 : 2 ≤ w.heap.size) (g : Rg) (hr : ∀ i, 0 ≤ g.R i ∧ g.R i < 4294967296) (line : Int) (wd : Int) (hwd : 0 ≤ wd ∧ wd < 4294967296) :
    Calls Tryd.prog 3 #[.agg (rgc g).toArray, .int .i64 line, .int .u32 wd] w fun e w' => e = .returned (.bool true) ∧ Kp w w' := by
  obtain ⟨w1, hw1⟩ : ∃ w1, w1 = w.alloc (.cells (rgc g).toArray 25) := ⟨_, rfl⟩
  have k1 : Kp w w1 := by rw [hw1]; exact (Chg.refl w _).alloc _
  have r1 : IsRg w1 w.heap.size g := by rw [hw1]; exact heap_alloc_new w _
  have hA := awake_any w1 (hg.keep k1) (Nat.le_trans h2 k1.size)
  have hz := fun w => zero25 w
  have HG : Hid (Gt w ∧ 2 ≤ w.heap.size ∧ (∀ i, 0 ≤ g.R i ∧ g.R i < 4294967296)) := ⟨hg, h2, hr⟩
  have HK1 : Hid (Kp w w1) := k1
  have hl25 : ∀ g, (Tryd.prog.info? 25).map (·.size) = some (rgc g).length := fun g => by rw [size25]; rfl
  have u25 := Tryd.underlying25
  clear hg h2 hr k1
  go_enter Tryd.func3, Tryd.ntmps3
  go_upto_region 1 with (first | (refine wpList_box_run rfl 25 (.tmp 0) rfl (rgc g).toArray rfl ?_))
  rw [← hw1]
  clear hw1
  go_upto_region 2 with (go_at_call 8; refine hA.mono ?_; rintro e w2 ⟨rfl, k2⟩)
  have r2 := r1.kp k2
  have c19 := r2.cell 19 _ rfl
  have f19 := r2.fr 19
  obtain ⟨r3, j3⟩ := r2.set 19 (.bool true) ⟨g.R, g.pc, g.vec, g.back, true, g.hd⟩ rfl
  have c20 := r3.cell 20 _ rfl
  have f20 := r3.fr 20
  obtain ⟨r4, j4⟩ := r3.set 20 (.bool false) ⟨g.R, g.pc, g.vec, g.back, true, false⟩ rfl
  have c0 := r4.cell 0 _ rfl
  have f0 := r4.fr 0
  obtain ⟨r5, j5⟩ := r4.set 0 (.int .u32 0) g.on1 rfl
  have HR5 : Hid (IsRg _ w.heap.size g.on1 ∧ Chg w2 _ (fun k => k = w.heap.size)) := ⟨r5, Chg.trans (Chg.trans j3 j4 (fun _ _ e => e)) j5 (fun _ _ e => e)⟩
  clear r1 r2 r3 r4 r5 j3 j4 j5 hA
  go_upto_region 5 with (fail)
  obtain ⟨w5, hw5⟩ : ∃ w5, w5 = ((w2.setCell ⟨w.heap.size, 19, none⟩ (.bool true)).setCell ⟨w.heap.size, 20, none⟩ (.bool false)).setCell ⟨w.heap.size, 0, none⟩ (.int .u32 0) := ⟨_, rfl⟩
  rw [← hw5] at HR5 ⊢
  clear hw5 c19 f19 c20 f20 c0 f0
  have r5 := HR5.out.1
  have rr5 := r5.range
  have n6 : (w5.alloc (.cells (rgc Rg.zero).toArray 25)).heap[w5.heap.size]? = some (.cells (rgc Rg.zero).toArray 25 (0, 0)) := heap_alloc_new w5 _
  have hst6 := storeAll (w5.alloc (.cells (rgc Rg.zero).toArray 25)) 25 w5.heap.size _ (rgc g.on1).toArray 25 n6 rfl (by rw [size25]; rfl) (by simpa using rgc_one g.on1)
  obtain ⟨w7, hw7⟩ : ∃ w7, w7 = (w5.alloc (.cells (rgc Rg.zero).toArray 25)).setRow w5.heap.size (rgc g.on1).toArray := ⟨_, rfl⟩
  have r7 : IsRg w7 w5.heap.size g.on1 := by rw [hw7]; exact setRow_heap _ _ _ _ 25 (0, 0) n6
  have k7 : Kp w5 w7 := by rw [hw7]; exact Chg.setRow ((Chg.refl w5 _).alloc _) (.inr (Nat.le_refl _)) _
  have z7 : w7.heap.size = w5.heap.size + 1 := by rw [hw7]; simp [World.setRow]
  have r7' := r5.kp k7
  rw [← hw7] at hst6
  have hlt : w.heap.size < w5.heap.size := hp_lt r5
  have HR7 : Hid (IsRg w7 w5.heap.size g.on1 ∧ IsRg w7 w.heap.size g.on1 ∧ Kp w5 w7 ∧ w7.heap.size = w5.heap.size + 1 ∧ w.heap.size < w5.heap.size) := ⟨r7, r7', k7, z7, hlt⟩
  clear hw7 n6 r7 k7 z7 r7' hlt r5
  go_upto_region 6 with (first
    | (refine wpList_load_mid rfl 25 (.tmp 3) rfl w.heap.size 0 rfl (rgc g.on1) _ rr5 u25 rfl (hl25 _) ?_)
    | (refine wpList_store_row rfl 25 (.tmp 8) (.tmp 20) rfl w5.heap.size 0 (rgc g.on1).toArray rfl rfl _ hst6 ?_))
  clear rr5 hst6
  go_upto_region 7 with (fail)
  have htm : -31 ≤ line.tmod 32 ∧ line.tmod 32 ≤ 31 := by
    have h1 := Int.tmod_lt_of_pos line (show (0 : Int) < 32 by decide)
    have h2 := Int.lt_tmod_of_pos line (show (0 : Int) < 32 by decide)
    omega
  generalize line.tmod 32 = tm at *
  have hcut : ∃ n : Int, 0 ≤ n ∧ n ≤ 31 ∧ ((tm < 0 ∧ wrap64 (-tm) = n) ∨ (¬ tm < 0 ∧ tm = n)) := by
    by_cases h : tm < 0
    · exact ⟨-tm, by omega, by omega, .inl ⟨h, by simp only [wrap64]; omega⟩⟩
    · exact ⟨tm, by omega, by omega, .inr ⟨h, rfl⟩⟩
  obtain ⟨n, n0, n31, hc⟩ := hcut
  obtain ⟨w8, hw8⟩ : ∃ w8, w8 = w7.alloc (.cells #[.int .u32 3019898880, .int .u32 wd] 22) := ⟨_, rfl⟩
  obtain ⟨x, hx⟩ : ∃ x, x = litB w7.heap.size 2 [3019898880, wd] n := ⟨_, rfl⟩
  obtain ⟨w9, hw9⟩ : ∃ w9, w9 = w8.alloc (.cells (bxc x).toArray 34) := ⟨_, rfl⟩
  have k8 : Kp w7 w8 := by rw [hw8]; exact (Chg.refl w7 _).alloc _
  have k9 : Kp w8 w9 := by rw [hw9]; exact (Chg.refl w8 _).alloc _
  have z8 : w8.heap.size = w7.heap.size + 1 := by rw [hw8]; simp
  have n8 : w8.heap[w7.heap.size]? = some (.cells #[.int .u32 3019898880, .int .u32 wd] 22 (0, 0)) := by rw [hw8]; exact heap_alloc_new w7 _
  have n9 : w9.heap[w8.heap.size]? = some (.cells (bxc x).toArray 34 (0, 0)) := by rw [hw9]; exact heap_alloc_new w8 _
  obtain ⟨q1, q2, q3, q4, q5⟩ := HR7.out
  have kw5 : Kp w w5 := Chg.trans (Kp.trans HK1.out k2) HR5.out.2 (fun i hi e => by omega)
  have hRb : Rb w9 w5.heap.size w8.heap.size g.on1 x := by
    rw [hx]
    refine ⟨(q1.kp k8).kp k9, litB_is (ws := [3019898880, wd]) (by rw [hx] at n9; exact n9) (Kp.heap k9 n8) (by omega) (by simp), HG.out.1.keep (Kp.trans (Kp.trans (Kp.trans kw5 q3) k8) k9), by have := HG.out.2.1; omega, fun k hk => ?_, fun k hk => ?_⟩
    · rcases hk with e | e
      · have := litB_own _ _ _ _ _ _ e; omega
      · have := litB_row _ _ _ _ _ e; omega
    · have := litB_own _ _ _ _ _ _ hk; omega
  have hxo : x.ok := by
    rw [hx]
    refine litB_ok _ _ _ _ (fun i => ?_)
    unfold nxt
    rcases Nat.eq_zero_or_pos i with h | h
    · subst h; show (0 : Int) ≤ 3019898880 ∧ (3019898880 : Int) < _; omega
    · rw [show min i ([(3019898880 : Int), wd].length - 1) = 1 by simp; omega]
      exact hwd
  have hir : x.irq = true := by rw [hx]; show (!(decide (n < 0) && !false)) = true; rw [decide_eq_false (by omega)]; rfl
  have hln : x.ln = n := by rw [hx]; rfl
  have hS1 := step_taken w9 w5.heap.size w8.heap.size g.on1 x hRb hxo rfl rfl hir
  rw [hln] at hS1
  rw [show rsc (Rs.irq n) = [.int .i64 6, .int .i64 4, .int .u32 0, .int .i64 0, .int .u32 0, .int .i64 n, .bool false, .int .u32 0, .bool false, .int .u64 0] from rfl] at hS1
  have hb2 := fun w => build34_2 w w7.heap.size 2 [3019898880, wd] n
  rw [← hx] at hb2
  have r9 := (q2.kp k8).kp k9
  have HRb : Hid (Rb w9 w5.heap.size w8.heap.size g.on1 x ∧ x.ok ∧ x.irq = true ∧ x = litB w7.heap.size 2 [3019898880, wd] n ∧ Kp w w9 ∧ IsRg w9 w.heap.size g.on1 ∧ w8.heap.size = w7.heap.size + 1) := ⟨hRb, hxo, hir, hx, Kp.trans (Kp.trans (Kp.trans kw5 q3) k8) k9, r9, z8⟩
  have HN : Hid (0 ≤ n ∧ n ≤ 31) := ⟨n0, n31⟩
  rw [hw8] at hw9
  rw [z8] at hS1
  clear hRb hxo hir hx k8 k9 z8 n8 n9 q1 q2 q3 q4 q5 kw5 r9 hw8 hln htm n0 n31
  generalize hBX : (bxc x).toArray = BX at *
  clear hBX
  rcases hc with ⟨hneg, hn⟩ | ⟨hneg, hn⟩
  · go_upto_region 9 with (fail)
    try rw [hn]
    clear hn hneg
    go_upto_region 10 with (first
      | (refine wpList_build2 rfl 34 0 5 (.tmp 28) (.tmp 29) rfl (.slice (some ⟨w7.heap.size, 0, none⟩) 2 2) (.int .i64 n) rfl rfl (.agg BX) (hb2 _) ?_)
      | (refine wpList_box_run rfl 34 (.tmp 30) rfl BX rfl ?_))
    rw [← hw9]
    clear hw9 hb2
    go_upto_region 11 with (go_at_call 9; refine hS1.mono ?_; rintro e w10 ⟨rfl, hsp⟩)
    have z8 := HRb.out.2.2.2.2.2.2
    rw [← z8] at hsp ⊢
    obtain ⟨v10, b10, k10, l10⟩ := Sp.rb HRb.out.1 hsp (fun k => irqd_row x k)
    have hxown : ∀ k, x.own w8.heap.size k → k = w8.heap.size := by rw [HRb.out.2.2.2.1]; exact fun k hk => litB_own _ _ _ _ _ _ hk
    obtain ⟨_, _, _, q4, q5⟩ := HR7.out
    have r0 : IsRg w10 w.heap.size g.on1 := HRb.out.2.2.2.2.2.1.chg k10 (by
      rintro (e | e)
      · omega
      · have := hxown _ e; omega)
    obtain ⟨W, hW⟩ : ∃ W, W = w10.alloc (.cells #[.int .i64 6, .int .i64 4, .int .u32 0, .int .i64 0, .int .u32 0, .int .i64 n, .bool false, .int .u32 0, .bool false, .int .u64 0] 38) := ⟨_, rfl⟩
    have kW : Kp w10 W := by rw [hW]; exact (Chg.refl w10 _).alloc _
    have nW : W.heap[w10.heap.size]? = some (.cells #[.int .i64 6, .int .i64 4, .int .u32 0, .int .i64 0, .int .u32 0, .int .i64 n, .bool false, .int .u32 0, .bool false, .int .u64 0] 38 (0, 0)) := by rw [hW]; exact heap_alloc_new w10 _
    have e1 : W.cell? ⟨w10.heap.size, 0, none⟩ = some (.int .i64 6) := by rw [(cells_at nW 0).1]; rfl
    have e2 : W.cell? ⟨w10.heap.size, 5, none⟩ = some (.int .i64 n) := by rw [(cells_at nW 5).1]; rfl
    have e3 : W.cell? ⟨w10.heap.size, 1, none⟩ = some (.int .i64 4) := by rw [(cells_at nW 1).1]; rfl
    have e4 := (b10.r.kp kW).cell 20 (.bool true) rfl
    have e5 := (b10.r.kp kW).cell 16 (.int .u32 g.vec) rfl
    have e6 := (b10.r.kp kW).cell 14 (.int .u32 (n % 4294967296)) rfl
    have e7 := (b10.r.kp kW).cell 18 (.int .u32 g.pc) rfl
    have e8 := (r0.kp kW).cell 17 (.int .u32 g.vec) rfl
    have e9 := (r0.kp kW).cell 16 (.int .u32 g.pc) rfl
    rw [← hW]
    have HL : Hid (∀ k, v10.ownBlock = some k → w9.heap.size ≤ k) := fun k hk => by
      rcases l10 with l | ⟨j, l, hj⟩
      · rw [l, HRb.out.2.2.2.1] at hk; cases hk
      · rw [l] at hk; cases hk; exact hj
    have HW : Hid (Rb w10 w5.heap.size w8.heap.size _ (x.irqd.lvTo v10) ∧ IsRg w10 w.heap.size g.on1 ∧ Chg w9 w10 _ ∧ Kp w10 W) := ⟨b10, r0, k10, kW⟩
    clear b10 r0 k10 kW nW hW l10 hsp hS1 hxown q4 q5 z8
    go_upto_region 13 with (fail)
    have HW2 : Hid (W.cell? ⟨w8.heap.size, 5, none⟩ = some (.int .i64 (-1)) ∨ True) := .inr trivial
    clear HW2
    have y5 := ((HW.out.1.b.kp HW.out.2.2.2).cell 5 _ rfl)
    have f5 := ((HW.out.1.b.kp HW.out.2.2.2).fr 5)
    obtain ⟨b11, k11⟩ := (HW.out.1.b.kp HW.out.2.2.2).set 5 (.int .i64 7) { x.irqd.lvTo v10 with ln := 7 } rfl rfl
    have hY : ({ x.irqd.lvTo v10 with ln := 7 } : Bd) = litY w7.heap.size wd v10 := by rw [HRb.out.2.2.2.1]; exact litB_irqd _ _ _ HN.out.1 _
    rw [hY] at b11
    have hGn := HRb.out.1.ne w8.heap.size (.inl (.inl rfl))
    have q5 := HR7.out.2.2.2.2
    have q4 := HR7.out.2.2.2.1
    have z8 := HRb.out.2.2.2.2.2.2
    have hown11 : ∀ k, (litY w7.heap.size wd v10).own w8.heap.size k ∨ (litY w7.heap.size wd v10).row k → (x.irqd.lvTo v10).own w8.heap.size k ∨ (x.irqd.lvTo v10).row k := fun k hk => by rw [← hY] at hk; exact hk
    have R11 : Rb _ w5.heap.size w8.heap.size _ (litY w7.heap.size wd v10) := ⟨(HW.out.1.r.kp HW.out.2.2.2).chg k11 (by omega), b11, (HW.out.1.g.keep HW.out.2.2.2).chg k11 (by omega) (by omega), HW.out.1.G2, fun k hk => HW.out.1.ne k (hown11 k hk), fun k hk => HW.out.1.o2 k (by rw [← hY] at hk; exact hk)⟩
    have r011 : IsRg _ w.heap.size g.on1 := (HW.out.2.1.kp HW.out.2.2.2).chg k11 (by omega)
    have hS2 := step_off _ w5.heap.size w8.heap.size _ (litY w7.heap.size wd v10) R11 (litY_ok _ _ _ hwd) (up_r (up_r (up_r HG.out.2.2 0 0 (by omega)) 0 0 (by omega)) 14 _ (by omega)) (.inr rfl)
    rw [er_r, er_g, er_B] at hS2
    have HW3 : Hid (Rb (W.setCell ⟨w8.heap.size, 5, none⟩ (.int .i64 7)) w5.heap.size w8.heap.size _ (litY w7.heap.size wd v10) ∧ IsRg (W.setCell ⟨w8.heap.size, 5, none⟩ (.int .i64 7)) w.heap.size g.on1 ∧ Chg W (W.setCell ⟨w8.heap.size, 5, none⟩ (.int .i64 7)) (fun k => k = w8.heap.size)) := ⟨R11, r011, k11⟩
    clear b11 k11 hY hGn q5 q4 z8 hown11 R11 r011 e1 e2 e3 e4 e5 e6 e7 e8 e9
    go_upto_region 14 with (fail)
    go_upto_region 15 with (go_at_call 9; refine hS2.mono ?_; rintro e w12 ⟨rfl, hsp2⟩)
    obtain ⟨v12, b12, k12, l12⟩ := Sp.rb HW3.out.1 hsp2 (fun k => Iff.rfl)
    have q5 := HR7.out.2.2.2.2
    have q4 := HR7.out.2.2.2.1
    have z8 := HRb.out.2.2.2.2.2.2
    have hG := HRb.out.1.ne w8.heap.size (.inl (.inl rfl))
    have ho3 : ¬ (w.heap.size = w5.heap.size ∨ (litY w7.heap.size wd v10).own w8.heap.size w.heap.size) := by
      rintro (e | e)
      · omega
      · have := hp_lt HRb.out.1.b.box
        rcases e with e | e
        · omega
        · have := HL.out _ e; omega
    have r012 : IsRg w12 w.heap.size g.on1 := HW3.out.2.1.chg k12 ho3
    obtain ⟨gl, cl, hv12⟩ : ∃ gl cl, v12 = .slice (some ⟨gl, 0, none⟩) 2 cl := by
      rcases b12.b.lg.2 with ⟨_, h0⟩ | ⟨g', c', _, hv, _⟩
      · cases h0
      · exact ⟨g', c', hv⟩
    have hbx := b12.b
    rw [hv12] at hbx
    obtain ⟨a0, a4⟩ : w12.cell? ⟨gl, 0, none⟩ = some (.int .u8 105) ∧ w12.cell? ⟨gl, 4, none⟩ = some (.int .u8 102) := by
      rcases hbx.lg.2 with ⟨h1, _⟩ | ⟨g', c', cur, hv, _, hh, _, _, _, ht⟩
      · cases h1
      · have hv' : Value.slice (some ⟨gl, 0, none⟩) 2 cl = Value.slice (some ⟨g', 0, none⟩) 2 c' := hv
        cases hv'
        have ht' : cur.toList.take 8 = [.int .u8 105, .int .u32 0, .int .i64 0, .int .u32 0, .int .u8 102, .int .u32 (g.on1.st w8.heap.size).g.vec, .int .i64 0, .int .u32 0] := ht
        have hc : ∀ j v, (cur.toList.take 8)[j]? = some v → w12.cell? ⟨gl, j, none⟩ = some v := fun j v hj => by
          rw [(cells_at hh j).1, ← Array.getElem?_toList]
          rw [List.getElem?_take] at hj
          split at hj
          · exact hj
          · cases hj
        rw [ht'] at hc
        exact ⟨hc 0 _ rfl, hc 4 _ rfl⟩
    obtain ⟨V, hV⟩ : ∃ V, V = w12.alloc (.cells #[.int .i64 1, .int .i64 1, .int .u32 0, .int .i64 0, .int .u32 0, .int .i64 0, .bool false, .int .u32 0, .bool false, .int .u64 0] 38) := ⟨_, rfl⟩
    have kV : Kp w12 V := by rw [hV]; exact (Chg.refl w12 _).alloc _
    have nV : V.heap[w12.heap.size]? = some (.cells #[.int .i64 1, .int .i64 1, .int .u32 0, .int .i64 0, .int .u32 0, .int .i64 0, .bool false, .int .u32 0, .bool false, .int .u64 0] 38 (0, 0)) := by rw [hV]; exact heap_alloc_new w12 _
    have e1 : V.cell? ⟨w12.heap.size, 0, none⟩ = some (.int .i64 1) := by rw [(cells_at nV 0).1]; rfl
    have a0' := Kp.cell kV a0
    have a4' := Kp.cell kV a4
    have c7 := (hbx.kp kV).cell 7 (.slice (some ⟨gl, 0, none⟩) 2 cl) rfl
    rw [← hV]
    have HV : Hid (Rb w12 w5.heap.size w8.heap.size _ ((litZ w7.heap.size wd (g.on1.st w8.heap.size).g.vec v10).lvTo v12) ∧ IsRg w12 w.heap.size g.on1 ∧ Chg (W.setCell ⟨w8.heap.size, 5, none⟩ (.int .i64 7)) w12 _ ∧ Kp w12 V ∧ v12 = .slice (some ⟨gl, 0, none⟩) 2 cl) := ⟨b12, r012, k12, kV, hv12⟩
    have HL2 : Hid (∀ k, v12.ownBlock = some k → w9.heap.size ≤ k) := fun k hk => by
      rcases l12 with l | ⟨j, l, hj⟩
      · exact HL.out k (by rw [l] at hk; exact hk)
      · rw [l] at hk
        cases hk
        have s1 := HW.out.2.2.1.size
        have s2 := HW.out.2.2.2.size
        have s3 := HW3.out.2.2.size
        omega
    clear b12 k12 l12 r012 hbx a0 a4 kV nV hV hsp2 hS2 ho3 q5 q4 z8 hG hv12 y5 f5
    go_wp2_with (fail)
    refine wp_loop_rounds 3 ?_
    rw [rounds_succ]
    go_wp2_with (fail)
    rw [rounds_succ]
    go_wp2_with (fail)
    rw [rounds_succ]
    go_upto_region 20 with (fail)
    have rV := HV.out.1.r.kp HV.out.2.2.2.1
    have r0V := HV.out.2.1.kp HV.out.2.2.2.1
    have q5 := HR7.out.2.2.2.2
    have q4 := HR7.out.2.2.2.1
    have z8 := HRb.out.2.2.2.2.2.2
    have hws := hp_lt HV.out.1.r
    have c14 := r0V.cell 14 (.int .u32 (g.R 14)) rfl
    have d14 := rV.cell 14 _ rfl
    have f14 := rV.fr 14
    obtain ⟨s1, j1⟩ := rV.set 14 (.int .u32 (g.R 14)) ⟨upR (upR (upR (g.on1.st w8.heap.size).g.R 14 (n % 4294967296)) 0 0) 14 (g.R 14), g.pc, g.vec, g.pc, true, false⟩ rfl
    have r0V1 := r0V.chg j1 (by omega)
    have c18 := r0V1.cell 18 (.int .u32 g.back) rfl
    have d18 := s1.cell 18 _ rfl
    have f18 := s1.fr 18
    obtain ⟨s2, j2⟩ := s1.set 18 (.int .u32 g.back) ⟨upR (upR (upR (g.on1.st w8.heap.size).g.R 14 (n % 4294967296)) 0 0) 14 (g.R 14), g.pc, g.vec, g.back, true, false⟩ rfl
    have r0V2 := r0V1.chg j2 (by omega)
    have jj := Chg.trans j1 j2 (fun _ _ e => e)
    obtain ⟨V2, hV2⟩ : ∃ V2, V2 = (V.setCell ⟨w5.heap.size, 14, none⟩ (.int .u32 (g.R 14))).setCell ⟨w5.heap.size, 18, none⟩ (.int .u32 g.back) := ⟨_, rfl⟩
    rw [← hV2] at s2 r0V2 jj
    have s2' : IsRg V2 w5.heap.size g.on1 := s2
    have e1' : V2.cell? ⟨w12.heap.size, 0, none⟩ = some (.int .i64 1) := by
      have hlt : w12.heap.size < V.heap.size := by
        rcases Nat.lt_or_ge w12.heap.size V.heap.size with h | h
        · exact h
        · have : V.heap[w12.heap.size]? = none := Array.getElem?_eq_none h
          simp [World.cell?, this] at e1
      rw [Chg.cell jj hlt (by omega)]
      exact e1
    have hGn : ∀ k, ((litZ w7.heap.size wd (g.on1.st w8.heap.size).g.vec v10).lvTo v12).own w8.heap.size k ∨ ((litZ w7.heap.size wd (g.on1.st w8.heap.size).g.vec v10).lvTo v12).row k → k ≠ w5.heap.size := HV.out.1.ne
    have b2 := (HV.out.1.b.kp HV.out.2.2.2.1).chg jj (fun k _ hk => hGn k hk)
    have l5 := b2.cell 5 (.int .i64 7) rfl
    have c19 := r0V2.cell 19 _ rfl
    have f19 := r0V2.fr 19
    obtain ⟨r3, j3⟩ := r0V2.set 19 (.bool false) ⟨g.on1.R, g.pc, g.vec, g.back, false, false⟩ rfl
    have ra1 := s2'.range
    have ra2 := r0V2.range
    have hq := fun w => neq25 g.on1 w
    have hgu := fun w x y => eqg25 w .neq x y (rgc g.on1).toArray (rgc g.on1).toArray
    have H22 : Hid (V2.cell? ⟨w12.heap.size, 0, none⟩ = some (.int .i64 1) ∧ V2.cell? ⟨w8.heap.size, 5, none⟩ = some (.int .i64 7) ∧ V2.rangeAt w5.heap.size 0 (rgc g.on1) ∧ V2.rangeAt w.heap.size 0 (rgc g.on1)) := ⟨e1', l5, ra1, ra2⟩
    have H24 : Hid (IsB V2 w8.heap.size ((litZ w7.heap.size wd (g.on1.st w8.heap.size).g.vec v10).lvTo v12) ∧ IsRg V2 w.heap.size g.on1 ∧ Chg V V2 (fun k => k = w5.heap.size) ∧ w.heap.size < w5.heap.size ∧ w7.heap.size = w5.heap.size + 1 ∧ w8.heap.size = w7.heap.size + 1) := ⟨b2, r0V2, jj, q5, q4, z8⟩
    have HV2 : Hid (V2 = (V.setCell ⟨w5.heap.size, 14, none⟩ (.int .u32 (g.R 14))).setCell ⟨w5.heap.size, 18, none⟩ (.int .u32 g.back)) := hV2
    clear rV r0V s1 j1 j2 r0V1 s2 s2' hGn hV2 e1' l5 ra1 ra2 b2 r0V2 jj q5 q4 z8 r3 j3 c19 f19 hws hq hgu e1 a0' a4' c7
    go_upto_region 22 with (fail)
    have hV2 := HV2.out
    rw [← hV2]
    clear hV2 HV2 c14 d14 f14 c18 d18 f18
    obtain ⟨e1', l5, ra1, ra2⟩ := H22.out
    obtain ⟨b2, r0V2, jj, q5, q4, z8⟩ := H24.out
    have c19 := r0V2.cell 19 _ rfl
    have f19 := r0V2.fr 19
    obtain ⟨r3, j3⟩ := r0V2.set 19 (.bool false) ⟨g.on1.R, g.pc, g.vec, g.back, false, false⟩ rfl
    have hb9 := hp_lt HRb.out.1.b.box
    have hn3 : ∀ k, ((litZ w7.heap.size wd (g.on1.st w8.heap.size).g.vec v10).lvTo v12).own w8.heap.size k ∨ ((litZ w7.heap.size wd (g.on1.st w8.heap.size).g.vec v10).lvTo v12).row k → w.heap.size < k := fun k hk => by
      rcases hk with (e | e) | e
      · omega
      · have := HL2.out k e; omega
      · rcases e with e | e | e | e
        · have e' : some w7.heap.size = some k := e
          cases e'
          omega
        · cases e
        · cases e
        · cases e
    have R3 : Rb _ w.heap.size w8.heap.size ⟨g.on1.R, g.pc, g.vec, g.back, false, false⟩ ((litZ w7.heap.size wd (g.on1.st w8.heap.size).g.vec v10).lvTo v12) := ⟨r3, b2.chg j3 (fun k _ hk => by have := hn3 k hk; omega), ((HV.out.1.g.keep HV.out.2.2.2.1).chg jj (by have := HG.out.2.1; omega) (by have := HG.out.2.1; omega)).chg j3 (by have := HG.out.2.1; omega) (by have := HG.out.2.1; omega), HG.out.2.1, fun k hk => by have := hn3 k hk; omega, fun k hk => by have := hn3 k (.inl hk); have := HG.out.2.1; omega⟩
    have hS3 := step_off _ w.heap.size w8.heap.size _ _ R3 (litZ_ok w7.heap.size wd (g.on1.st w8.heap.size).g.vec v12 hwd) (up_r HG.out.2.2 0 0 (by omega)) (.inl rfl)
    have hk6 := insS_kind (Rg.st ⟨g.on1.R, g.pc, g.vec, g.back, false, false⟩ w8.heap.size) ((litZ w7.heap.size wd (g.on1.st w8.heap.size).g.vec v10).lvTo v12)
    have hl7 := (insB_ln (Rg.st ⟨g.on1.R, g.pc, g.vec, g.back, false, false⟩ w8.heap.size) ((litZ w7.heap.size wd (g.on1.st w8.heap.size).g.vec v10).lvTo v12)).1
    have hl7' : (insB (Rg.st ⟨g.on1.R, g.pc, g.vec, g.back, false, false⟩ w8.heap.size) ((litZ w7.heap.size wd (g.on1.st w8.heap.size).g.vec v10).lvTo v12)).ln = 7 := hl7
    generalize (insS (Rg.st ⟨g.on1.R, g.pc, g.vec, g.back, false, false⟩ w8.heap.size) ((litZ w7.heap.size wd (g.on1.st w8.heap.size).g.vec v10).lvTo v12)).g = g13 at *
    generalize insB (Rg.st ⟨g.on1.R, g.pc, g.vec, g.back, false, false⟩ w8.heap.size) ((litZ w7.heap.size wd (g.on1.st w8.heap.size).g.vec v10).lvTo v12) = y13 at *
    generalize (insS (Rg.st ⟨g.on1.R, g.pc, g.vec, g.back, false, false⟩ w8.heap.size) ((litZ w7.heap.size wd (g.on1.st w8.heap.size).g.vec v10).lvTo v12)).r = rr at *
    rw [show rsc rr = [.int .i64 rr.kind, .int .i64 rr.cyc, .int .u32 rr.num, .int .i64 rr.flt, .int .u32 rr.addr, .int .i64 rr.line, .bool rr.lod, .int .u32 rr.val, .bool rr.rd, .int .u64 rr.clk] from rfl] at hS3
    have hk6' : (rr.kind != 6) = true := by simpa using hk6
    have hk6'' : (rr.kind == 6) = false := by simpa using hk6
    have HE3 : Hid (Kp w w9 ∧ Chg V2 (V2.setCell ⟨w.heap.size, 19, none⟩ (.bool false)) (fun k => k = w.heap.size) ∧ (∀ k, ((litZ w7.heap.size wd (g.on1.st w8.heap.size).g.vec v10).lvTo v12).own w8.heap.size k ∨ ((litZ w7.heap.size wd (g.on1.st w8.heap.size).g.vec v10).lvTo v12).row k → w.heap.size < k)) := ⟨HRb.out.2.2.2.2.1, j3, hn3⟩
    clear b2 r0V2 jj q5 q4 z8 r3 j3 hb9 hn3 R3 hl7 hk6
    have hq := fun w => neq25 g.on1 w
    have hgu := fun w x y => eqg25 w .neq x y (rgc g.on1).toArray (rgc g.on1).toArray
    generalize hLL : rgc g.on1 = LL at *
    have hl := hl25 g.on1
    rw [hLL] at hl
    clear hl25 hLL
    go_wp2_with (first
      | (refine gload_mid (by kernel_rfl) 25 (.tmp 8) rfl w5.heap.size 0 rfl LL _ ra1 u25 rfl hl ?_; simp only [Act.put, List.setIfInBounds_toArray, List.set_cons_zero, List.set_cons_succ])
      | (refine gload_mid (by kernel_rfl) 25 (.tmp 3) rfl w.heap.size 0 rfl LL _ ra2 u25 rfl hl ?_; simp only [Act.put, List.setIfInBounds_toArray, List.set_cons_zero, List.set_cons_succ])
      | (refine gbinop_run (by kernel_rfl) .neq 25 25 (.tmp 120) (.tmp 121) rfl (.agg LL.toArray) (.agg LL.toArray) (.bool false) rfl rfl (hgu _ _ _) (hq _) ?_; simp only [Act.put, List.setIfInBounds_toArray, List.set_cons_zero, List.set_cons_succ]; clear hq hgu ra1 ra2 u25 hl)
      | (go_at_call 9; refine hS3.mono ?_; rintro e w13 ⟨rfl, v13, r13, b13, k13, l13⟩; have c5' := (b13.kp ((Kp.refl w13).alloc (.cells #[.int .i64 rr.kind, .int .i64 rr.cyc, .int .u32 rr.num, .int .i64 rr.flt, .int .u32 rr.addr, .int .i64 rr.line, .bool rr.lod, .int .u32 rr.val, .bool rr.rd, .int .u64 rr.clk] 38))).cell 5 (.int .i64 y13.ln) rfl; rw [hl7'] at c5'; have HF : Hid (Chg (V2.setCell ⟨w.heap.size, 19, none⟩ (.bool false)) w13 _) := k13; clear r13 b13 k13 l13))
    go_ret
    refine ⟨rfl, Chg.alloc ?_ _⟩
    have q5 := H24.out.2.2.2.1
    have q4 := H24.out.2.2.2.2.1
    have z8 := H24.out.2.2.2.2.2
    have hb9 := hp_lt HRb.out.1.b.box
    refine Chg.trans (Chg.trans (Chg.trans (Chg.trans (Chg.trans (Chg.trans (Chg.trans (Chg.trans HE3.out.1 HW.out.2.2.1 ?_) HW.out.2.2.2 (fun _ _ e => e)) HW3.out.2.2 ?_) HV.out.2.2.1 ?_) HV.out.2.2.2.1 (fun _ _ e => e)) H24.out.2.2.1 ?_) HE3.out.2.1 ?_) HF.out ?_
    · rintro i hi (e | e)
      · omega
      · rw [HRb.out.2.2.2.1] at e
        have := litB_own _ _ _ _ _ _ e; omega
    · intro i hi e; omega
    · rintro i hi (e | e | e)
      · omega
      · omega
      · have := HL.out i e; omega
    · intro i hi e; omega
    · intro i hi e; omega
    · rintro i hi (e | e)
      · omega
      · have := HE3.out.2.2 i (.inl e); omega
  · rw [hn]
    rw [hn] at hneg
    clear hn
    go_upto_region 9 with (fail)
    clear hneg
    go_upto_region 10 with (first
      | (refine wpList_build2 rfl 34 0 5 (.tmp 28) (.tmp 29) rfl (.slice (some ⟨w7.heap.size, 0, none⟩) 2 2) (.int .i64 n) rfl rfl (.agg BX) (hb2 _) ?_)
      | (refine wpList_box_run rfl 34 (.tmp 30) rfl BX rfl ?_))
    rw [← hw9]
    clear hw9 hb2
    go_upto_region 11 with (go_at_call 9; refine hS1.mono ?_; rintro e w10 ⟨rfl, hsp⟩)
    have z8 := HRb.out.2.2.2.2.2.2
    rw [← z8] at hsp ⊢
    obtain ⟨v10, b10, k10, l10⟩ := Sp.rb HRb.out.1 hsp (fun k => irqd_row x k)
    have hxown : ∀ k, x.own w8.heap.size k → k = w8.heap.size := by rw [HRb.out.2.2.2.1]; exact fun k hk => litB_own _ _ _ _ _ _ hk
    obtain ⟨_, _, _, q4, q5⟩ := HR7.out
    have r0 : IsRg w10 w.heap.size g.on1 := HRb.out.2.2.2.2.2.1.chg k10 (by
      rintro (e | e)
      · omega
      · have := hxown _ e; omega)
    obtain ⟨W, hW⟩ : ∃ W, W = w10.alloc (.cells #[.int .i64 6, .int .i64 4, .int .u32 0, .int .i64 0, .int .u32 0, .int .i64 n, .bool false, .int .u32 0, .bool false, .int .u64 0] 38) := ⟨_, rfl⟩
    have kW : Kp w10 W := by rw [hW]; exact (Chg.refl w10 _).alloc _
    have nW : W.heap[w10.heap.size]? = some (.cells #[.int .i64 6, .int .i64 4, .int .u32 0, .int .i64 0, .int .u32 0, .int .i64 n, .bool false, .int .u32 0, .bool false, .int .u64 0] 38 (0, 0)) := by rw [hW]; exact heap_alloc_new w10 _
    have e1 : W.cell? ⟨w10.heap.size, 0, none⟩ = some (.int .i64 6) := by rw [(cells_at nW 0).1]; rfl
    have e2 : W.cell? ⟨w10.heap.size, 5, none⟩ = some (.int .i64 n) := by rw [(cells_at nW 5).1]; rfl
    have e3 : W.cell? ⟨w10.heap.size, 1, none⟩ = some (.int .i64 4) := by rw [(cells_at nW 1).1]; rfl
    have e4 := (b10.r.kp kW).cell 20 (.bool true) rfl
    have e5 := (b10.r.kp kW).cell 16 (.int .u32 g.vec) rfl
    have e6 := (b10.r.kp kW).cell 14 (.int .u32 (n % 4294967296)) rfl
    have e7 := (b10.r.kp kW).cell 18 (.int .u32 g.pc) rfl
    have e8 := (r0.kp kW).cell 17 (.int .u32 g.vec) rfl
    have e9 := (r0.kp kW).cell 16 (.int .u32 g.pc) rfl
    rw [← hW]
    have HL : Hid (∀ k, v10.ownBlock = some k → w9.heap.size ≤ k) := fun k hk => by
      rcases l10 with l | ⟨j, l, hj⟩
      · rw [l, HRb.out.2.2.2.1] at hk; cases hk
      · rw [l] at hk; cases hk; exact hj
    have HW : Hid (Rb w10 w5.heap.size w8.heap.size _ (x.irqd.lvTo v10) ∧ IsRg w10 w.heap.size g.on1 ∧ Chg w9 w10 _ ∧ Kp w10 W) := ⟨b10, r0, k10, kW⟩
    clear b10 r0 k10 kW nW hW l10 hsp hS1 hxown q4 q5 z8
    go_upto_region 13 with (fail)
    have HW2 : Hid (W.cell? ⟨w8.heap.size, 5, none⟩ = some (.int .i64 (-1)) ∨ True) := .inr trivial
    clear HW2
    have y5 := ((HW.out.1.b.kp HW.out.2.2.2).cell 5 _ rfl)
    have f5 := ((HW.out.1.b.kp HW.out.2.2.2).fr 5)
    obtain ⟨b11, k11⟩ := (HW.out.1.b.kp HW.out.2.2.2).set 5 (.int .i64 7) { x.irqd.lvTo v10 with ln := 7 } rfl rfl
    have hY : ({ x.irqd.lvTo v10 with ln := 7 } : Bd) = litY w7.heap.size wd v10 := by rw [HRb.out.2.2.2.1]; exact litB_irqd _ _ _ HN.out.1 _
    rw [hY] at b11
    have hGn := HRb.out.1.ne w8.heap.size (.inl (.inl rfl))
    have q5 := HR7.out.2.2.2.2
    have q4 := HR7.out.2.2.2.1
    have z8 := HRb.out.2.2.2.2.2.2
    have hown11 : ∀ k, (litY w7.heap.size wd v10).own w8.heap.size k ∨ (litY w7.heap.size wd v10).row k → (x.irqd.lvTo v10).own w8.heap.size k ∨ (x.irqd.lvTo v10).row k := fun k hk => by rw [← hY] at hk; exact hk
    have R11 : Rb _ w5.heap.size w8.heap.size _ (litY w7.heap.size wd v10) := ⟨(HW.out.1.r.kp HW.out.2.2.2).chg k11 (by omega), b11, (HW.out.1.g.keep HW.out.2.2.2).chg k11 (by omega) (by omega), HW.out.1.G2, fun k hk => HW.out.1.ne k (hown11 k hk), fun k hk => HW.out.1.o2 k (by rw [← hY] at hk; exact hk)⟩
    have r011 : IsRg _ w.heap.size g.on1 := (HW.out.2.1.kp HW.out.2.2.2).chg k11 (by omega)
    have hS2 := step_off _ w5.heap.size w8.heap.size _ (litY w7.heap.size wd v10) R11 (litY_ok _ _ _ hwd) (up_r (up_r (up_r HG.out.2.2 0 0 (by omega)) 0 0 (by omega)) 14 _ (by omega)) (.inr rfl)
    rw [er_r, er_g, er_B] at hS2
    have HW3 : Hid (Rb (W.setCell ⟨w8.heap.size, 5, none⟩ (.int .i64 7)) w5.heap.size w8.heap.size _ (litY w7.heap.size wd v10) ∧ IsRg (W.setCell ⟨w8.heap.size, 5, none⟩ (.int .i64 7)) w.heap.size g.on1 ∧ Chg W (W.setCell ⟨w8.heap.size, 5, none⟩ (.int .i64 7)) (fun k => k = w8.heap.size)) := ⟨R11, r011, k11⟩
    clear b11 k11 hY hGn q5 q4 z8 hown11 R11 r011 e1 e2 e3 e4 e5 e6 e7 e8 e9
    go_upto_region 14 with (fail)
    go_upto_region 15 with (go_at_call 9; refine hS2.mono ?_; rintro e w12 ⟨rfl, hsp2⟩)
    obtain ⟨v12, b12, k12, l12⟩ := Sp.rb HW3.out.1 hsp2 (fun k => Iff.rfl)
    have q5 := HR7.out.2.2.2.2
    have q4 := HR7.out.2.2.2.1
    have z8 := HRb.out.2.2.2.2.2.2
    have hG := HRb.out.1.ne w8.heap.size (.inl (.inl rfl))
    have ho3 : ¬ (w.heap.size = w5.heap.size ∨ (litY w7.heap.size wd v10).own w8.heap.size w.heap.size) := by
      rintro (e | e)
      · omega
      · have := hp_lt HRb.out.1.b.box
        rcases e with e | e
        · omega
        · have := HL.out _ e; omega
    have r012 : IsRg w12 w.heap.size g.on1 := HW3.out.2.1.chg k12 ho3
    obtain ⟨gl, cl, hv12⟩ : ∃ gl cl, v12 = .slice (some ⟨gl, 0, none⟩) 2 cl := by
      rcases b12.b.lg.2 with ⟨_, h0⟩ | ⟨g', c', _, hv, _⟩
      · cases h0
      · exact ⟨g', c', hv⟩
    have hbx := b12.b
    rw [hv12] at hbx
    obtain ⟨a0, a4⟩ : w12.cell? ⟨gl, 0, none⟩ = some (.int .u8 105) ∧ w12.cell? ⟨gl, 4, none⟩ = some (.int .u8 102) := by
      rcases hbx.lg.2 with ⟨h1, _⟩ | ⟨g', c', cur, hv, _, hh, _, _, _, ht⟩
      · cases h1
      · have hv' : Value.slice (some ⟨gl, 0, none⟩) 2 cl = Value.slice (some ⟨g', 0, none⟩) 2 c' := hv
        cases hv'
        have ht' : cur.toList.take 8 = [.int .u8 105, .int .u32 0, .int .i64 0, .int .u32 0, .int .u8 102, .int .u32 (g.on1.st w8.heap.size).g.vec, .int .i64 0, .int .u32 0] := ht
        have hc : ∀ j v, (cur.toList.take 8)[j]? = some v → w12.cell? ⟨gl, j, none⟩ = some v := fun j v hj => by
          rw [(cells_at hh j).1, ← Array.getElem?_toList]
          rw [List.getElem?_take] at hj
          split at hj
          · exact hj
          · cases hj
        rw [ht'] at hc
        exact ⟨hc 0 _ rfl, hc 4 _ rfl⟩
    obtain ⟨V, hV⟩ : ∃ V, V = w12.alloc (.cells #[.int .i64 1, .int .i64 1, .int .u32 0, .int .i64 0, .int .u32 0, .int .i64 0, .bool false, .int .u32 0, .bool false, .int .u64 0] 38) := ⟨_, rfl⟩
    have kV : Kp w12 V := by rw [hV]; exact (Chg.refl w12 _).alloc _
    have nV : V.heap[w12.heap.size]? = some (.cells #[.int .i64 1, .int .i64 1, .int .u32 0, .int .i64 0, .int .u32 0, .int .i64 0, .bool false, .int .u32 0, .bool false, .int .u64 0] 38 (0, 0)) := by rw [hV]; exact heap_alloc_new w12 _
    have e1 : V.cell? ⟨w12.heap.size, 0, none⟩ = some (.int .i64 1) := by rw [(cells_at nV 0).1]; rfl
    have a0' := Kp.cell kV a0
    have a4' := Kp.cell kV a4
    have c7 := (hbx.kp kV).cell 7 (.slice (some ⟨gl, 0, none⟩) 2 cl) rfl
    rw [← hV]
    have HV : Hid (Rb w12 w5.heap.size w8.heap.size _ ((litZ w7.heap.size wd (g.on1.st w8.heap.size).g.vec v10).lvTo v12) ∧ IsRg w12 w.heap.size g.on1 ∧ Chg (W.setCell ⟨w8.heap.size, 5, none⟩ (.int .i64 7)) w12 _ ∧ Kp w12 V ∧ v12 = .slice (some ⟨gl, 0, none⟩) 2 cl) := ⟨b12, r012, k12, kV, hv12⟩
    have HL2 : Hid (∀ k, v12.ownBlock = some k → w9.heap.size ≤ k) := fun k hk => by
      rcases l12 with l | ⟨j, l, hj⟩
      · exact HL.out k (by rw [l] at hk; exact hk)
      · rw [l] at hk
        cases hk
        have s1 := HW.out.2.2.1.size
        have s2 := HW.out.2.2.2.size
        have s3 := HW3.out.2.2.size
        omega
    clear b12 k12 l12 r012 hbx a0 a4 kV nV hV hsp2 hS2 ho3 q5 q4 z8 hG hv12 y5 f5
    go_wp2_with (fail)
    refine wp_loop_rounds 3 ?_
    rw [rounds_succ]
    go_wp2_with (fail)
    rw [rounds_succ]
    go_wp2_with (fail)
    rw [rounds_succ]
    go_upto_region 20 with (fail)
    have rV := HV.out.1.r.kp HV.out.2.2.2.1
    have r0V := HV.out.2.1.kp HV.out.2.2.2.1
    have q5 := HR7.out.2.2.2.2
    have q4 := HR7.out.2.2.2.1
    have z8 := HRb.out.2.2.2.2.2.2
    have hws := hp_lt HV.out.1.r
    have c14 := r0V.cell 14 (.int .u32 (g.R 14)) rfl
    have d14 := rV.cell 14 _ rfl
    have f14 := rV.fr 14
    obtain ⟨s1, j1⟩ := rV.set 14 (.int .u32 (g.R 14)) ⟨upR (upR (upR (g.on1.st w8.heap.size).g.R 14 (n % 4294967296)) 0 0) 14 (g.R 14), g.pc, g.vec, g.pc, true, false⟩ rfl
    have r0V1 := r0V.chg j1 (by omega)
    have c18 := r0V1.cell 18 (.int .u32 g.back) rfl
    have d18 := s1.cell 18 _ rfl
    have f18 := s1.fr 18
    obtain ⟨s2, j2⟩ := s1.set 18 (.int .u32 g.back) ⟨upR (upR (upR (g.on1.st w8.heap.size).g.R 14 (n % 4294967296)) 0 0) 14 (g.R 14), g.pc, g.vec, g.back, true, false⟩ rfl
    have r0V2 := r0V1.chg j2 (by omega)
    have jj := Chg.trans j1 j2 (fun _ _ e => e)
    obtain ⟨V2, hV2⟩ : ∃ V2, V2 = (V.setCell ⟨w5.heap.size, 14, none⟩ (.int .u32 (g.R 14))).setCell ⟨w5.heap.size, 18, none⟩ (.int .u32 g.back) := ⟨_, rfl⟩
    rw [← hV2] at s2 r0V2 jj
    have s2' : IsRg V2 w5.heap.size g.on1 := s2
    have e1' : V2.cell? ⟨w12.heap.size, 0, none⟩ = some (.int .i64 1) := by
      have hlt : w12.heap.size < V.heap.size := by
        rcases Nat.lt_or_ge w12.heap.size V.heap.size with h | h
        · exact h
        · have : V.heap[w12.heap.size]? = none := Array.getElem?_eq_none h
          simp [World.cell?, this] at e1
      rw [Chg.cell jj hlt (by omega)]
      exact e1
    have hGn : ∀ k, ((litZ w7.heap.size wd (g.on1.st w8.heap.size).g.vec v10).lvTo v12).own w8.heap.size k ∨ ((litZ w7.heap.size wd (g.on1.st w8.heap.size).g.vec v10).lvTo v12).row k → k ≠ w5.heap.size := HV.out.1.ne
    have b2 := (HV.out.1.b.kp HV.out.2.2.2.1).chg jj (fun k _ hk => hGn k hk)
    have l5 := b2.cell 5 (.int .i64 7) rfl
    have c19 := r0V2.cell 19 _ rfl
    have f19 := r0V2.fr 19
    obtain ⟨r3, j3⟩ := r0V2.set 19 (.bool false) ⟨g.on1.R, g.pc, g.vec, g.back, false, false⟩ rfl
    have ra1 := s2'.range
    have ra2 := r0V2.range
    have hq := fun w => neq25 g.on1 w
    have hgu := fun w x y => eqg25 w .neq x y (rgc g.on1).toArray (rgc g.on1).toArray
    have H22 : Hid (V2.cell? ⟨w12.heap.size, 0, none⟩ = some (.int .i64 1) ∧ V2.cell? ⟨w8.heap.size, 5, none⟩ = some (.int .i64 7) ∧ V2.rangeAt w5.heap.size 0 (rgc g.on1) ∧ V2.rangeAt w.heap.size 0 (rgc g.on1)) := ⟨e1', l5, ra1, ra2⟩
    have H24 : Hid (IsB V2 w8.heap.size ((litZ w7.heap.size wd (g.on1.st w8.heap.size).g.vec v10).lvTo v12) ∧ IsRg V2 w.heap.size g.on1 ∧ Chg V V2 (fun k => k = w5.heap.size) ∧ w.heap.size < w5.heap.size ∧ w7.heap.size = w5.heap.size + 1 ∧ w8.heap.size = w7.heap.size + 1) := ⟨b2, r0V2, jj, q5, q4, z8⟩
    have HV2 : Hid (V2 = (V.setCell ⟨w5.heap.size, 14, none⟩ (.int .u32 (g.R 14))).setCell ⟨w5.heap.size, 18, none⟩ (.int .u32 g.back)) := hV2
    clear rV r0V s1 j1 j2 r0V1 s2 s2' hGn hV2 e1' l5 ra1 ra2 b2 r0V2 jj q5 q4 z8 r3 j3 c19 f19 hws hq hgu e1 a0' a4' c7
    go_upto_region 22 with (fail)
    have hV2 := HV2.out
    rw [← hV2]
    clear hV2 HV2 c14 d14 f14 c18 d18 f18
    obtain ⟨e1', l5, ra1, ra2⟩ := H22.out
    obtain ⟨b2, r0V2, jj, q5, q4, z8⟩ := H24.out
    have c19 := r0V2.cell 19 _ rfl
    have f19 := r0V2.fr 19
    obtain ⟨r3, j3⟩ := r0V2.set 19 (.bool false) ⟨g.on1.R, g.pc, g.vec, g.back, false, false⟩ rfl
    have hb9 := hp_lt HRb.out.1.b.box
    have hn3 : ∀ k, ((litZ w7.heap.size wd (g.on1.st w8.heap.size).g.vec v10).lvTo v12).own w8.heap.size k ∨ ((litZ w7.heap.size wd (g.on1.st w8.heap.size).g.vec v10).lvTo v12).row k → w.heap.size < k := fun k hk => by
      rcases hk with (e | e) | e
      · omega
      · have := HL2.out k e; omega
      · rcases e with e | e | e | e
        · have e' : some w7.heap.size = some k := e
          cases e'
          omega
        · cases e
        · cases e
        · cases e
    have R3 : Rb _ w.heap.size w8.heap.size ⟨g.on1.R, g.pc, g.vec, g.back, false, false⟩ ((litZ w7.heap.size wd (g.on1.st w8.heap.size).g.vec v10).lvTo v12) := ⟨r3, b2.chg j3 (fun k _ hk => by have := hn3 k hk; omega), ((HV.out.1.g.keep HV.out.2.2.2.1).chg jj (by have := HG.out.2.1; omega) (by have := HG.out.2.1; omega)).chg j3 (by have := HG.out.2.1; omega) (by have := HG.out.2.1; omega), HG.out.2.1, fun k hk => by have := hn3 k hk; omega, fun k hk => by have := hn3 k (.inl hk); have := HG.out.2.1; omega⟩
    have hS3 := step_off _ w.heap.size w8.heap.size _ _ R3 (litZ_ok w7.heap.size wd (g.on1.st w8.heap.size).g.vec v12 hwd) (up_r HG.out.2.2 0 0 (by omega)) (.inl rfl)
    have hk6 := insS_kind (Rg.st ⟨g.on1.R, g.pc, g.vec, g.back, false, false⟩ w8.heap.size) ((litZ w7.heap.size wd (g.on1.st w8.heap.size).g.vec v10).lvTo v12)
    have hl7 := (insB_ln (Rg.st ⟨g.on1.R, g.pc, g.vec, g.back, false, false⟩ w8.heap.size) ((litZ w7.heap.size wd (g.on1.st w8.heap.size).g.vec v10).lvTo v12)).1
    have hl7' : (insB (Rg.st ⟨g.on1.R, g.pc, g.vec, g.back, false, false⟩ w8.heap.size) ((litZ w7.heap.size wd (g.on1.st w8.heap.size).g.vec v10).lvTo v12)).ln = 7 := hl7
    generalize (insS (Rg.st ⟨g.on1.R, g.pc, g.vec, g.back, false, false⟩ w8.heap.size) ((litZ w7.heap.size wd (g.on1.st w8.heap.size).g.vec v10).lvTo v12)).g = g13 at *
    generalize insB (Rg.st ⟨g.on1.R, g.pc, g.vec, g.back, false, false⟩ w8.heap.size) ((litZ w7.heap.size wd (g.on1.st w8.heap.size).g.vec v10).lvTo v12) = y13 at *
    generalize (insS (Rg.st ⟨g.on1.R, g.pc, g.vec, g.back, false, false⟩ w8.heap.size) ((litZ w7.heap.size wd (g.on1.st w8.heap.size).g.vec v10).lvTo v12)).r = rr at *
    rw [show rsc rr = [.int .i64 rr.kind, .int .i64 rr.cyc, .int .u32 rr.num, .int .i64 rr.flt, .int .u32 rr.addr, .int .i64 rr.line, .bool rr.lod, .int .u32 rr.val, .bool rr.rd, .int .u64 rr.clk] from rfl] at hS3
    have hk6' : (rr.kind != 6) = true := by simpa using hk6
    have hk6'' : (rr.kind == 6) = false := by simpa using hk6
    have HE3 : Hid (Kp w w9 ∧ Chg V2 (V2.setCell ⟨w.heap.size, 19, none⟩ (.bool false)) (fun k => k = w.heap.size) ∧ (∀ k, ((litZ w7.heap.size wd (g.on1.st w8.heap.size).g.vec v10).lvTo v12).own w8.heap.size k ∨ ((litZ w7.heap.size wd (g.on1.st w8.heap.size).g.vec v10).lvTo v12).row k → w.heap.size < k)) := ⟨HRb.out.2.2.2.2.1, j3, hn3⟩
    clear b2 r0V2 jj q5 q4 z8 r3 j3 hb9 hn3 R3 hl7 hk6
    have hq := fun w => neq25 g.on1 w
    have hgu := fun w x y => eqg25 w .neq x y (rgc g.on1).toArray (rgc g.on1).toArray
    generalize hLL : rgc g.on1 = LL at *
    have hl := hl25 g.on1
    rw [hLL] at hl
    clear hl25 hLL
    go_wp2_with (first
      | (refine gload_mid (by kernel_rfl) 25 (.tmp 8) rfl w5.heap.size 0 rfl LL _ ra1 u25 rfl hl ?_; simp only [Act.put, List.setIfInBounds_toArray, List.set_cons_zero, List.set_cons_succ])
      | (refine gload_mid (by kernel_rfl) 25 (.tmp 3) rfl w.heap.size 0 rfl LL _ ra2 u25 rfl hl ?_; simp only [Act.put, List.setIfInBounds_toArray, List.set_cons_zero, List.set_cons_succ])
      | (refine gbinop_run (by kernel_rfl) .neq 25 25 (.tmp 120) (.tmp 121) rfl (.agg LL.toArray) (.agg LL.toArray) (.bool false) rfl rfl (hgu _ _ _) (hq _) ?_; simp only [Act.put, List.setIfInBounds_toArray, List.set_cons_zero, List.set_cons_succ]; clear hq hgu ra1 ra2 u25 hl)
      | (go_at_call 9; refine hS3.mono ?_; rintro e w13 ⟨rfl, v13, r13, b13, k13, l13⟩; have c5' := (b13.kp ((Kp.refl w13).alloc (.cells #[.int .i64 rr.kind, .int .i64 rr.cyc, .int .u32 rr.num, .int .i64 rr.flt, .int .u32 rr.addr, .int .i64 rr.line, .bool rr.lod, .int .u32 rr.val, .bool rr.rd, .int .u64 rr.clk] 38))).cell 5 (.int .i64 y13.ln) rfl; rw [hl7'] at c5'; have HF : Hid (Chg (V2.setCell ⟨w.heap.size, 19, none⟩ (.bool false)) w13 _) := k13; clear r13 b13 k13 l13))
    go_ret
    refine ⟨rfl, Chg.alloc ?_ _⟩
    have q5 := H24.out.2.2.2.1
    have q4 := H24.out.2.2.2.2.1
    have z8 := H24.out.2.2.2.2.2
    have hb9 := hp_lt HRb.out.1.b.box
    refine Chg.trans (Chg.trans (Chg.trans (Chg.trans (Chg.trans (Chg.trans (Chg.trans (Chg.trans HE3.out.1 HW.out.2.2.1 ?_) HW.out.2.2.2 (fun _ _ e => e)) HW3.out.2.2 ?_) HV.out.2.2.1 ?_) HV.out.2.2.2.1 (fun _ _ e => e)) H24.out.2.2.1 ?_) HE3.out.2.1 ?_) HF.out ?_
    · rintro i hi (e | e)
      · omega
      · rw [HRb.out.2.2.2.1] at e
        have := litB_own _ _ _ _ _ _ e; omega
    · intro i hi e; omega
    · rintro i hi (e | e | e)
      · omega
      · omega
      · have := HL.out i e; omega
    · intro i hi e; omega
    · intro i hi e; omega
    · rintro i hi (e | e)
      · omega
      · have := HE3.out.2.2 i (.inl e); omega
end Go.Proofs.YtghiffpolacmiaaDoor
