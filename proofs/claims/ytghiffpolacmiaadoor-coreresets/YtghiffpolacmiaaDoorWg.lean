import Derived.Test.YtghiffpolacmiaaDoorWh
import Derived.Test.YtghiffpolacmiaaDoorVa
import Derived.Test.YtghiffpolacmiaaDoorIn
namespace Go.Proofs.YtghiffpolacmiaaDoor
open Go.ChangeShapes Go.WideShapes Go.ChangeAt Go.RowKit
set_option linter.unusedVariables false

/-- Registers in a box of their own, copied. -/
theorem copy_rg (W : World) (G : Nat) (g : Rg) (h : IsRg W G g) : ∃ W', (storeVar 25 ⟨W.heap.size, 0, none⟩ (.agg (rgc g).toArray)).run Tryd.prog (W.alloc (.cells (rgc Rg.zero).toArray 25)) = .ok () W' ∧ IsRg W' W.heap.size g ∧ Kp W W' ∧ W'.heap.size = W.heap.size + 1 := by
  have n6 : (W.alloc (.cells (rgc Rg.zero).toArray 25)).heap[W.heap.size]? = some (.cells (rgc Rg.zero).toArray 25 (0, 0)) := heap_alloc_new W _
  refine ⟨_, storeAll (W.alloc (.cells (rgc Rg.zero).toArray 25)) 25 W.heap.size _ (rgc g).toArray 25 n6 rfl (by rw [size25]; rfl) (by simpa using rgc_one g), setRow_heap _ _ _ _ 25 (0, 0) n6, Chg.setRow ((Chg.refl W _).alloc _) (.inr (Nat.le_refl _)) _, by simp [World.setRow]⟩
def Rg.off (g : Rg) : Rg := ⟨g.R, g.pc, g.vec, g.back, false, g.hd⟩
set_option maxRecDepth 100000 in
set_option maxHeartbeats 4000000 in
theorem goes_walk (w : World) (hg : Gt w) (h2 : 2 ≤ w.heap.size) (g : Rg) (hr : g.ok) (imm : Int) (hi : -2147483648 ≤ imm ∧ imm ≤ 2147483647) (wh : Int) (hwh : -9223372036854775808 ≤ wh ∧ wh ≤ 9223372036854775807) :
    Calls Tryd.prog 6 #[.agg (rgc g).toArray, .int .i32 imm, .int .i64 wh] w fun e w' => e = .returned (.bool true) ∧ Kp w w' := by
  obtain ⟨w1, hw1⟩ : ∃ w1, w1 = w.alloc (.cells (rgc g).toArray 25) := ⟨_, rfl⟩
  have k1 : Kp w w1 := by rw [hw1]; exact (Chg.refl w _).alloc _
  have r1 : IsRg w1 w.heap.size g := by rw [hw1]; exact heap_alloc_new w _
  have hA := awake_any w1 (hg.keep k1) (Nat.le_trans h2 k1.size)
  have hz := fun w => zero25 w
  have HG : Hid (Gt w ∧ 2 ≤ w.heap.size ∧ g.ok) := ⟨hg, h2, hr⟩
  have HK1 : Hid (Kp w w1) := k1
  have hl25 : ∀ g, (Tryd.prog.info? 25).map (·.size) = some (rgc g).length := fun g => by rw [size25]; rfl
  have u25 := Tryd.underlying25
  have him : -99999 ≤ imm.tmod 100000 ∧ imm.tmod 100000 ≤ 99999 := by
    have h1 := Int.tmod_lt_of_pos imm (show (0 : Int) < 100000 by decide)
    have h2 := Int.lt_tmod_of_pos imm (show (0 : Int) < 100000 by decide)
    omega
  have htm : -2 ≤ wh.tmod 3 ∧ wh.tmod 3 ≤ 2 := by
    have h1 := Int.tmod_lt_of_pos wh (show (0 : Int) < 3 by decide)
    have h2 := Int.lt_tmod_of_pos wh (show (0 : Int) < 3 by decide)
    omega
  clear hg h2 hr k1
  go_enter Tryd.func6, Tryd.ntmps6
  go_upto_region 1 with (first | (refine wpList_box_run rfl 25 (.tmp 0) rfl (rgc g).toArray rfl ?_))
  rw [← hw1]
  clear hw1
  go_upto_region 2 with (go_at_call 8; refine hA.mono ?_; rintro e w2 ⟨rfl, k2⟩)
  have r2 := r1.kp k2
  have c19 := r2.cell 19 _ rfl
  have f19 := r2.fr 19
  obtain ⟨r3, j3⟩ := r2.set 19 (.bool false) g.off rfl
  have HR3 : Hid (IsRg _ w.heap.size g.off ∧ Chg w2 _ (fun k => k = w.heap.size)) := ⟨r3, j3⟩
  clear r1 r2 r3 j3 hA
  go_upto_region 3 with (fail)
  obtain ⟨w3, hw3⟩ : ∃ w3, w3 = (w2.setCell ⟨w.heap.size, 19, none⟩ (.bool false)) := ⟨_, rfl⟩
  rw [← hw3] at HR3 ⊢
  clear hw3 c19 f19
  go_upto_region 4 with (fail)
  obtain ⟨w4, hw4⟩ : ∃ w4, w4 = w3.alloc (.cells #[.int .i64 32, .int .i64 34, .int .i64 36] 50) := ⟨_, rfl⟩
  have k4 : Kp w3 w4 := by rw [hw4]; exact (Chg.refl w3 _).alloc _
  have n4 : w4.heap[w3.heap.size]? = some (.cells #[.int .i64 32, .int .i64 34, .int .i64 36] 50 (0, 0)) := by rw [hw4]; exact heap_alloc_new w3 _
  rw [← hw4]
  clear hw4
  go_upto_region 5 with (fail)
  generalize wh.tmod 3 = tm at *
  have hcut : ∃ n : Nat, n ≤ 2 ∧ ((tm < 0 ∧ -tm = (n : Int)) ∨ (¬ tm < 0 ∧ tm = (n : Int))) := by
    by_cases h : tm < 0
    · exact ⟨(-tm).toNat, by omega, .inl ⟨h, by omega⟩⟩
    · exact ⟨tm.toNat, by omega, .inr ⟨h, by omega⟩⟩
  obtain ⟨n, n2, hc⟩ := hcut
  obtain ⟨o, ho⟩ : ∃ o : Nat, o = 32 + 2 * n := ⟨_, rfl⟩
  have ho3 : o = 32 ∨ o = 34 ∨ o = 36 := by omega
  have c4 : w4.cell? ⟨w3.heap.size, n, none⟩ = some (.int .i64 (o : Nat)) := by
    rw [(cells_at n4 n).1]
    have : n = 0 ∨ n = 1 ∨ n = 2 := by omega
    rcases this with rfl | rfl | rfl <;> (subst ho; rfl)
  obtain ⟨i, hi2⟩ : ∃ i, imm.tmod 100000 = i := ⟨_, rfl⟩
  rw [hi2] at him
  have kw3 : Kp w w3 := Chg.trans (Kp.trans HK1.out k2) HR3.out.2 (fun i hi e => by omega)
  have gt4 : Gt w4 := HG.out.1.keep (Kp.trans kw3 k4)
  have hE1 : ∀ W, Kp w4 W → Calls Tryd.prog 13 #[.agg #[.int .i64 (o : Nat), .int .u8 0, .int .u8 2, .int .u8 3, .int .i32 i]] W fun e w' => e = .returned (.tuple #[.int .u32 (ew (o : Nat) 0 2 3 i), .int .i64 0]) ∧ Kp W w' := fun W k => by
    have := Encode_any W (gt4.keep k) (o : Nat) 0 2 3 i
    rw [ck_br o (by omega) i (by omega)] at this
    exact this
  have hE2 : ∀ W, Kp w4 W → Calls Tryd.prog 13 #[.agg #[.int .i64 ((o : Nat) + 1), .int .u8 0, .int .u8 2, .int .u8 3, .int .i32 i]] W fun e w' => e = .returned (.tuple #[.int .u32 (ew ((o + 1 : Nat) : Nat) 0 2 3 i), .int .i64 0]) ∧ Kp W w' := fun W k => by
    have := Encode_any W (gt4.keep k) ((o + 1 : Nat) : Nat) 0 2 3 i
    rw [ck_br (o + 1) (by omega) i (by omega)] at this
    exact this
  have hE3 : ∀ W, Kp w4 W → Calls Tryd.prog 13 #[.agg #[.int .i64 38, .int .u8 1, .int .u8 0, .int .u8 0, .int .i32 i]] W fun e w' => e = .returned (.tuple #[.int .u32 (ew 38 1 0 0 i), .int .i64 0]) ∧ Kp W w' := fun W k => by
    have := Encode_any W (gt4.keep k) 38 1 0 0 i
    rw [ck_jal i (by omega)] at this
    exact this
  have hBr := br_any g.off o ho3 i (by omega)
  have hJ := fun bb p q r s => jal_any g.off i (by omega) bb p q r s
  have wE1 := ew_ok (ck_br o (by omega) i (by omega))
  have wE2 := ew_ok (ck_br (o + 1) (by omega) i (by omega))
  have wE3 := ew_ok (ck_jal i (by omega))
  have HN : Hid (o = 32 + 2 * n ∧ n ≤ 2 ∧ Kp w w4 ∧ w4.heap[w3.heap.size]? = some (.cells #[.int .i64 32, .int .i64 34, .int .i64 36] 50 (0, 0))) := ⟨ho, n2, Kp.trans kw3 k4, n4⟩
  clear ho ho3 kw3 n4 gt4
  generalize ew (o : Nat) 0 2 3 i = y1 at *
  generalize ew ((o + 1 : Nat) : Nat) 0 2 3 i = y2 at *
  generalize ew 38 1 0 0 i = y3 at *
  have ho1 : wrap64 ((o : Nat) + 1 : Int) = (o : Nat) + 1 := by simp only [wrap64]; have := HN.out.1; have := HN.out.2.1; omega
  have n3 : (n : Int) < 3 := by omega
  obtain ⟨q, hq⟩ := hBr
  rcases hc with ⟨hneg, hn⟩ | ⟨hneg, hn⟩
  · go_upto_region 8 with (fail)
    try rw [hn]
    try rw [hi2]
    clear hn hneg hi2 htm
    go_upto_region 9 with (go_at_call 13; refine (hE1 _ (Kp.refl _)).mono ?_; rintro e w5 ⟨rfl, k5⟩; have c5 := Kp.cell k5 c4)
    go_upto_region 10 with (go_at_call 13; refine (hE2 _ k5).mono ?_; rintro e w6 ⟨rfl, k6⟩; have k46 := Kp.trans k5 k6)
    go_upto_region 11 with (go_at_call 13; refine (hE3 _ k46).mono ?_; rintro e w7 ⟨rfl, k7⟩; have k47 := Kp.trans k46 k7)
    go_upto_region 13 with (fail)
    obtain ⟨w8, hst8, r8, k8, z8⟩ := copy_rg w7 w.heap.size g.off ((HR3.out.1.kp k4).kp k47)
    have r70 := (HR3.out.1.kp k4).kp k47
    have rr7 := r70.range
    have r80 := r70.kp k8
    have rr8 := r80.range
    obtain ⟨w9, hst9, r9, k9, z9⟩ := copy_rg w8 w.heap.size g.off r80
    have r90 := r80.kp k9
    have rr9 := r90.range
    obtain ⟨w10, hst10, r10, k10, z10⟩ := copy_rg w9 w.heap.size g.off r90
    have K10 : Kp w w10 := Kp.trans HN.out.2.2.1 (Kp.trans k47 (Kp.trans k8 (Kp.trans k9 k10)))
    have lt0 : w.heap.size < w7.heap.size := hp_lt r70
    have HB1 : Hid (IsRg w10 w7.heap.size g.off ∧ Gt w10 ∧ 2 ≤ w7.heap.size) := ⟨(r8.kp k9).kp k10, HG.out.1.keep K10, by have := HG.out.2.1; omega⟩
    have HRS : Hid (IsRg w10 w.heap.size g.off ∧ IsRg w10 w8.heap.size g.off ∧ IsRg w10 w9.heap.size g.off ∧ w8.heap.size = w7.heap.size + 1 ∧ w9.heap.size = w8.heap.size + 1 ∧ w10.heap.size = w9.heap.size + 1 ∧ w.heap.size < w7.heap.size ∧ Kp w w10) := ⟨r90.kp k10, r9.kp k10, r10, z8, z9, z10, lt0, K10⟩
    clear r70 r80 r90 r8 r9 r10 k8 k9 k10 z8 z9 z10 K10 lt0 c4 c5 k5 k6 k7 k46
    go_upto_region 14 with (first
      | (refine wpList_load_mid rfl 25 (.tmp 3) rfl w.heap.size 0 rfl (rgc g.off) _ rr7 u25 rfl (hl25 _) ?_)
      | (refine wpList_store_row rfl 25 (.tmp 16) (.tmp 77) rfl w7.heap.size 0 (rgc g.off).toArray rfl rfl _ hst8 ?_))
    go_upto_region 15 with (first
      | (refine wpList_load_mid rfl 25 (.tmp 3) rfl w.heap.size 0 rfl (rgc g.off) _ rr8 u25 rfl (hl25 _) ?_)
      | (refine wpList_store_row rfl 25 (.tmp 17) (.tmp 78) rfl w8.heap.size 0 (rgc g.off).toArray rfl rfl _ hst9 ?_))
    go_upto_region 16 with (first
      | (refine wpList_load_mid rfl 25 (.tmp 3) rfl w.heap.size 0 rfl (rgc g.off) _ rr9 u25 rfl (hl25 _) ?_)
      | (refine wpList_store_row rfl 25 (.tmp 18) (.tmp 79) rfl w9.heap.size 0 (rgc g.off).toArray rfl rfl _ hst10 ?_))
    clear hst8 hst9 hst10 rr7 rr8 rr9
    have hC1 := calm_any w10 y1 0 (.slice none 0 0) [] (rw_none _ _) (fun g e => by cases e) (by show 0 * 4 ≤ _; omega)
    have hS1 := fun (V : World) (cb : Nat) (p q r s : Value) (i : IsB V cb (calmB y1 [] 0 p q r s)) (k : Kp w10 V) (hc : w10.heap.size ≤ cb) (hrow : ∀ k, (calmB y1 [] 0 p q r s).row k → w10.heap.size ≤ k) =>
      step_off V w7.heap.size cb g.off _ (calm_rb HB1.out.1 HB1.out.2.1 HB1.out.2.2 i k hc hrow) (calmB_ok _ _ _ _ _ _ _ wE1 (fun i => by show (0 : Int) ≤ 0 ∧ (0 : Int) < _; omega) (by omega)) HG.out.2.2.R (.inl rfl)
    go_upto_region 17 with (first
      | (go_at_call 14; refine hC1.mono ?_; rintro e wa1 ⟨cb1, p1, q1, r1, s1, rfl, i1, j1, l1, t1⟩)
      | (go_at_call 9; refine (hS1 wa1 cb1 p1 q1 r1 s1 i1 j1 l1 t1).mono ?_; rintro e wb1 ⟨rfl, v1, gr1, bb1, kk1, ll1⟩; have R1 := hq cb1 p1 q1 r1 s1; rw [R1.1]; have P1 := R1.2.1; clear R1; generalize (insS (g.off.st cb1) (calmB y1 [] 0 p1 q1 r1 s1)).g = g1 at *; rw [show rsc rs1 = [.int .i64 1, .int .i64 1, .int .u32 0, .int .i64 0, .int .u32 0, .int .i64 0, .bool false, .int .u32 0, .bool false, .int .u64 0] from rfl]))
    obtain ⟨wc1, hwc1⟩ : ∃ wc, wc = wb1.alloc (.cells #[.int .i64 1, .int .i64 1, .int .u32 0, .int .i64 0, .int .u32 0, .int .i64 0, .bool false, .int .u32 0, .bool false, .int .u64 0] 38) := ⟨_, rfl⟩
    have n1 : wc1.heap[wb1.heap.size]? = some (.cells #[.int .i64 1, .int .i64 1, .int .u32 0, .int .i64 0, .int .u32 0, .int .i64 0, .bool false, .int .u32 0, .bool false, .int .u64 0] 38 (0, 0)) := by rw [hwc1]; exact heap_alloc_new wb1 _
    have kc1 : Kp wb1 wc1 := by rw [hwc1]; exact (Chg.refl wb1 _).alloc _
    rw [← hwc1]
    clear hwc1
    have KK1 : Chg w10 wc1 (fun k => k = w7.heap.size) := Chg.trans (T := fun _ => False) (Chg.trans (T := fun k => k = w7.heap.size ∨ (calmB y1 [] 0 p1 q1 r1 s1).own cb1 k) (Kp.any j1) kk1 (fun j hj e => by
      rcases e with e | e
      · exact e
      · have := calmB_own _ _ _ _ _ _ _ _ _ e; omega)) kc1 (fun _ _ e => e.elim)
    obtain ⟨o0, o2, o3, z8, z9, z10, lt0, K10⟩ := HRS.out
    have HB2 : Hid (IsRg wc1 w8.heap.size g.off ∧ Gt wc1 ∧ 2 ≤ w8.heap.size) := ⟨o2.chg KK1 (by omega), (HG.out.1.keep K10).chg KK1 (by have := HG.out.2.1; omega) (by have := HG.out.2.1; omega), by have := HG.out.2.1; omega⟩
    have HR1 : Hid (IsRg wc1 w.heap.size g.off ∧ IsRg wc1 w7.heap.size g1 ∧ IsRg wc1 w9.heap.size g.off ∧ w10.heap.size ≤ wb1.heap.size ∧ wb1.heap.size < wc1.heap.size ∧ Chg w10 wc1 (fun k => k = w7.heap.size)) := ⟨o0.chg KK1 (by omega), gr1.kp kc1, o3.chg KK1 (by omega), Nat.le_trans j1.size kk1.size, hp_lt n1, KK1⟩
    have HN1 : Hid (wc1.heap[wb1.heap.size]? = some (.cells #[.int .i64 1, .int .i64 1, .int .u32 0, .int .i64 0, .int .u32 0, .int .i64 0, .bool false, .int .u32 0, .bool false, .int .u64 0] 38 (0, 0))) := n1
    clear o0 o2 o3 z8 z9 z10 lt0 K10 KK1 gr1 kc1 kk1 j1 n1 bb1 ll1 i1 l1 t1 hC1 hS1 HB1
    have hC2 := calm_any wc1 y2 0 (.slice none 0 0) [] (rw_none _ _) (fun g e => by cases e) (by show 0 * 4 ≤ _; omega)
    have hS2 := fun (V : World) (cb : Nat) (p q r s : Value) (i : IsB V cb (calmB y2 [] 0 p q r s)) (k : Kp wc1 V) (hc : wc1.heap.size ≤ cb) (hrow : ∀ k, (calmB y2 [] 0 p q r s).row k → wc1.heap.size ≤ k) =>
      step_off V w8.heap.size cb g.off _ (calm_rb HB2.out.1 HB2.out.2.1 HB2.out.2.2 i k hc hrow) (calmB_ok _ _ _ _ _ _ _ wE2 (fun i => by show (0 : Int) ≤ 0 ∧ (0 : Int) < _; omega) (by omega)) HG.out.2.2.R (.inl rfl)
    go_upto_region 18 with (first
      | (go_at_call 14; refine hC2.mono ?_; rintro e wa2 ⟨cb2, p2, q2, r2, s2, rfl, i2, j2, l2, t2⟩)
      | (go_at_call 9; refine (hS2 wa2 cb2 p2 q2 r2 s2 i2 j2 l2 t2).mono ?_; rintro e wb2 ⟨rfl, v2, gr2, bb2, kk2, ll2⟩; have R2 := hq cb2 p2 q2 r2 s2; rw [R2.2.2.1]; have P2 := R2.2.2.2; clear R2; generalize (insS (g.off.st cb2) (calmB y2 [] 0 p2 q2 r2 s2)).g = g2 at *; rw [show rsc rs1 = [.int .i64 1, .int .i64 1, .int .u32 0, .int .i64 0, .int .u32 0, .int .i64 0, .bool false, .int .u32 0, .bool false, .int .u64 0] from rfl]))
    obtain ⟨wc2, hwc2⟩ : ∃ wc, wc = wb2.alloc (.cells #[.int .i64 1, .int .i64 1, .int .u32 0, .int .i64 0, .int .u32 0, .int .i64 0, .bool false, .int .u32 0, .bool false, .int .u64 0] 38) := ⟨_, rfl⟩
    have n2 : wc2.heap[wb2.heap.size]? = some (.cells #[.int .i64 1, .int .i64 1, .int .u32 0, .int .i64 0, .int .u32 0, .int .i64 0, .bool false, .int .u32 0, .bool false, .int .u64 0] 38 (0, 0)) := by rw [hwc2]; exact heap_alloc_new wb2 _
    have kc2 : Kp wb2 wc2 := by rw [hwc2]; exact (Chg.refl wb2 _).alloc _
    rw [← hwc2]
    clear hwc2
    have KK2 : Chg wc1 wc2 (fun k => k = w8.heap.size) := Chg.trans (T := fun _ => False) (Chg.trans (T := fun k => k = w8.heap.size ∨ (calmB y2 [] 0 p2 q2 r2 s2).own cb2 k) (Kp.any j2) kk2 (fun j hj e => by
      rcases e with e | e
      · exact e
      · have := calmB_own _ _ _ _ _ _ _ _ _ e; omega)) kc2 (fun _ _ e => e.elim)
    obtain ⟨o0, o2, o3, z8, z9, z10, lt0, K10⟩ := HRS.out
    obtain ⟨u0, u1, u3, u4, u5, u6⟩ := HR1.out
    have HB3 : Hid (IsRg wc2 w9.heap.size g.off ∧ Gt wc2 ∧ 2 ≤ w9.heap.size) := ⟨u3.chg KK2 (by omega), HB2.out.2.1.chg KK2 (by have := HG.out.2.1; omega) (by have := HG.out.2.1; omega), by have := HG.out.2.1; omega⟩
    have z1c := u6.size
    have HR2 : Hid (IsRg wc2 w.heap.size g.off ∧ IsRg wc2 w7.heap.size g1 ∧ IsRg wc2 w8.heap.size g2 ∧ wc1.heap.size ≤ wb2.heap.size ∧ wb2.heap.size < wc2.heap.size ∧ Chg wc1 wc2 (fun k => k = w8.heap.size)) := ⟨u0.chg KK2 (by omega), u1.chg KK2 (by omega), gr2.kp kc2, Nat.le_trans j2.size kk2.size, hp_lt n2, KK2⟩
    have HN2 : Hid (wc2.heap[wb1.heap.size]? = some (.cells #[.int .i64 1, .int .i64 1, .int .u32 0, .int .i64 0, .int .u32 0, .int .i64 0, .bool false, .int .u32 0, .bool false, .int .u64 0] 38 (0, 0)) ∧ wc2.heap[wb2.heap.size]? = some (.cells #[.int .i64 1, .int .i64 1, .int .u32 0, .int .i64 0, .int .u32 0, .int .i64 0, .bool false, .int .u32 0, .bool false, .int .u64 0] 38 (0, 0))) := ⟨KK2.heap HN1.out (by omega), n2⟩
    clear o0 o2 o3 z8 z9 z10 lt0 K10 KK2 gr2 kc2 kk2 j2 n2 bb2 ll2 i2 l2 t2 hC2 hS2 HB2 u0 u1 u3 u4 u5 u6 z1c HN1
    have hC3 := calm_any wc2 y3 0 (.slice none 0 0) [] (rw_none _ _) (fun g e => by cases e) (by show 0 * 4 ≤ _; omega)
    have hS3 := fun (V : World) (cb : Nat) (p q r s : Value) (i : IsB V cb (calmB y3 [] 0 p q r s)) (k : Kp wc2 V) (hc : wc2.heap.size ≤ cb) (hrow : ∀ k, (calmB y3 [] 0 p q r s).row k → wc2.heap.size ≤ k) =>
      step_off V w9.heap.size cb g.off _ (calm_rb HB3.out.1 HB3.out.2.1 HB3.out.2.2 i k hc hrow) (calmB_ok _ _ _ _ _ _ _ wE3 (fun i => by show (0 : Int) ≤ 0 ∧ (0 : Int) < _; omega) (by omega)) HG.out.2.2.R (.inl rfl)
    go_upto_region 19 with (first
      | (go_at_call 14; refine hC3.mono ?_; rintro e wa3 ⟨cb3, p3, q3, r3, s3, rfl, i3, j3, l3, t3⟩)
      | (go_at_call 9; refine (hS3 wa3 cb3 p3 q3 r3 s3 i3 j3 l3 t3).mono ?_; rintro e wb3 ⟨rfl, v3, gr3, bb3, kk3, ll3⟩; have R3 := hJ cb3 p3 q3 r3 s3; rw [R3.1]; have P3 := R3.2.1; have Q3 := R3.2.2; clear R3; generalize (insS (g.off.st cb3) (calmB y3 [] 0 p3 q3 r3 s3)).g = g3 at *; rw [show rsc rs1 = [.int .i64 1, .int .i64 1, .int .u32 0, .int .i64 0, .int .u32 0, .int .i64 0, .bool false, .int .u32 0, .bool false, .int .u64 0] from rfl]))
    obtain ⟨wc3, hwc3⟩ : ∃ wc, wc = wb3.alloc (.cells #[.int .i64 1, .int .i64 1, .int .u32 0, .int .i64 0, .int .u32 0, .int .i64 0, .bool false, .int .u32 0, .bool false, .int .u64 0] 38) := ⟨_, rfl⟩
    have n3 : wc3.heap[wb3.heap.size]? = some (.cells #[.int .i64 1, .int .i64 1, .int .u32 0, .int .i64 0, .int .u32 0, .int .i64 0, .bool false, .int .u32 0, .bool false, .int .u64 0] 38 (0, 0)) := by rw [hwc3]; exact heap_alloc_new wb3 _
    have kc3 : Kp wb3 wc3 := by rw [hwc3]; exact (Chg.refl wb3 _).alloc _
    rw [← hwc3]
    clear hwc3
    have KK3 : Chg wc2 wc3 (fun k => k = w9.heap.size) := Chg.trans (T := fun _ => False) (Chg.trans (T := fun k => k = w9.heap.size ∨ (calmB y3 [] 0 p3 q3 r3 s3).own cb3 k) (Kp.any j3) kk3 (fun j hj e => by
      rcases e with e | e
      · exact e
      · have := calmB_own _ _ _ _ _ _ _ _ _ e; omega)) kc3 (fun _ _ e => e.elim)
    obtain ⟨o0, o2, o3, z8, z9, z10, lt0, K10⟩ := HRS.out
    obtain ⟨_, _, _, u4, u5, u6⟩ := HR1.out
    obtain ⟨v0, v1, v2, v4, v5, v6⟩ := HR2.out
    have z1c := u6.size
    have z2c := v6.size
    have e0 := (v0.chg KK3 (by omega)).cell 16 (.int .u32 g.pc) rfl
    have e1 := (v1.chg KK3 (by omega)).cell 16 (.int .u32 g1.pc) rfl
    have e2 := (v2.chg KK3 (by omega)).cell 16 (.int .u32 g2.pc) rfl
    have e3 := (gr3.kp kc3).cell 16 (.int .u32 g3.pc) rfl
    have e4 := (gr3.kp kc3).cell 1 (.int .u32 (g3.R 1)) rfl
    have a1 : wc3.cell? ⟨wb1.heap.size, 0, none⟩ = some (.int .i64 1) := by rw [(cells_at (KK3.heap HN2.out.1 (by omega)) 0).1]; rfl
    have a2 : wc3.cell? ⟨wb2.heap.size, 0, none⟩ = some (.int .i64 1) := by rw [(cells_at (KK3.heap HN2.out.2 (by omega)) 0).1]; rfl
    have a3 : wc3.cell? ⟨wb3.heap.size, 0, none⟩ = some (.int .i64 1) := by rw [(cells_at n3 0).1]; rfl
    rw [P1] at e1
    rw [P2] at e2
    rw [P3] at e3
    rw [Q3] at e4
    have HE : Hid (Kp w wc3) := Chg.trans (T := fun k => k = w7.heap.size ∨ k = w8.heap.size ∨ k = w9.heap.size) K10 (Chg.trans (T := fun k => k = w9.heap.size) (Chg.trans (T := fun k => k = w8.heap.size) (Chg.mono u6 (fun _ _ e => .inl e)) v6 (fun _ _ e => .inr (.inl e))) KK3 (fun _ _ e => .inr (.inr e))) (fun i hi e => by omega)
    clear o0 o2 o3 z8 z9 z10 lt0 K10 KK3 gr3 kc3 kk3 j3 n3 bb3 ll3 i3 l3 t3 hC3 hS3 HB3 u4 u5 u6 z1c z2c v0 v1 v2 v4 v5 v6 HN2 HR1 HR2 P1 P2 P3 Q3 hE1 hE2 hE3 hq hJ HR3 HN HRS
    simp only [bTo, bOn, show g.off.pc = g.pc from rfl] at e1 e2 e3 e4
    go_upto_region 21 with (fail)
    generalize (g.pc + 4 * (i % 4294967296) % 4294967296) % 4294967296 = T at *
    generalize (g.pc + 4) % 4294967296 = N at *
    cases q
    · have e1' : wc3.cell? ⟨w7.heap.size, 16, none⟩ = some (.int .u32 N) := e1
      have e2' : wc3.cell? ⟨w8.heap.size, 16, none⟩ = some (.int .u32 T) := e2
      clear e1 e2
      by_cases hTN : N = T
      · subst hTN
        go_wp2_with fail
        go_ret
        exact ⟨rfl, HE.out⟩
      · have hb : (N == T) = false := by simpa using hTN
        go_wp2_with fail
        go_ret
        exact ⟨rfl, HE.out⟩
    · have e1' : wc3.cell? ⟨w7.heap.size, 16, none⟩ = some (.int .u32 T) := e1
      have e2' : wc3.cell? ⟨w8.heap.size, 16, none⟩ = some (.int .u32 N) := e2
      clear e1 e2
      go_wp2_with fail
      go_ret
      exact ⟨rfl, HE.out⟩
  · go_upto_region 8 with (fail)
    try rw [hn]
    try rw [hi2]
    clear hn hneg hi2 htm
    go_upto_region 9 with (go_at_call 13; refine (hE1 _ (Kp.refl _)).mono ?_; rintro e w5 ⟨rfl, k5⟩; have c5 := Kp.cell k5 c4)
    go_upto_region 10 with (go_at_call 13; refine (hE2 _ k5).mono ?_; rintro e w6 ⟨rfl, k6⟩; have k46 := Kp.trans k5 k6)
    go_upto_region 11 with (go_at_call 13; refine (hE3 _ k46).mono ?_; rintro e w7 ⟨rfl, k7⟩; have k47 := Kp.trans k46 k7)
    go_upto_region 13 with (fail)
    obtain ⟨w8, hst8, r8, k8, z8⟩ := copy_rg w7 w.heap.size g.off ((HR3.out.1.kp k4).kp k47)
    have r70 := (HR3.out.1.kp k4).kp k47
    have rr7 := r70.range
    have r80 := r70.kp k8
    have rr8 := r80.range
    obtain ⟨w9, hst9, r9, k9, z9⟩ := copy_rg w8 w.heap.size g.off r80
    have r90 := r80.kp k9
    have rr9 := r90.range
    obtain ⟨w10, hst10, r10, k10, z10⟩ := copy_rg w9 w.heap.size g.off r90
    have K10 : Kp w w10 := Kp.trans HN.out.2.2.1 (Kp.trans k47 (Kp.trans k8 (Kp.trans k9 k10)))
    have lt0 : w.heap.size < w7.heap.size := hp_lt r70
    have HB1 : Hid (IsRg w10 w7.heap.size g.off ∧ Gt w10 ∧ 2 ≤ w7.heap.size) := ⟨(r8.kp k9).kp k10, HG.out.1.keep K10, by have := HG.out.2.1; omega⟩
    have HRS : Hid (IsRg w10 w.heap.size g.off ∧ IsRg w10 w8.heap.size g.off ∧ IsRg w10 w9.heap.size g.off ∧ w8.heap.size = w7.heap.size + 1 ∧ w9.heap.size = w8.heap.size + 1 ∧ w10.heap.size = w9.heap.size + 1 ∧ w.heap.size < w7.heap.size ∧ Kp w w10) := ⟨r90.kp k10, r9.kp k10, r10, z8, z9, z10, lt0, K10⟩
    clear r70 r80 r90 r8 r9 r10 k8 k9 k10 z8 z9 z10 K10 lt0 c4 c5 k5 k6 k7 k46
    go_upto_region 14 with (first
      | (refine wpList_load_mid rfl 25 (.tmp 3) rfl w.heap.size 0 rfl (rgc g.off) _ rr7 u25 rfl (hl25 _) ?_)
      | (refine wpList_store_row rfl 25 (.tmp 16) (.tmp 77) rfl w7.heap.size 0 (rgc g.off).toArray rfl rfl _ hst8 ?_))
    go_upto_region 15 with (first
      | (refine wpList_load_mid rfl 25 (.tmp 3) rfl w.heap.size 0 rfl (rgc g.off) _ rr8 u25 rfl (hl25 _) ?_)
      | (refine wpList_store_row rfl 25 (.tmp 17) (.tmp 78) rfl w8.heap.size 0 (rgc g.off).toArray rfl rfl _ hst9 ?_))
    go_upto_region 16 with (first
      | (refine wpList_load_mid rfl 25 (.tmp 3) rfl w.heap.size 0 rfl (rgc g.off) _ rr9 u25 rfl (hl25 _) ?_)
      | (refine wpList_store_row rfl 25 (.tmp 18) (.tmp 79) rfl w9.heap.size 0 (rgc g.off).toArray rfl rfl _ hst10 ?_))
    clear hst8 hst9 hst10 rr7 rr8 rr9
    have hC1 := calm_any w10 y1 0 (.slice none 0 0) [] (rw_none _ _) (fun g e => by cases e) (by show 0 * 4 ≤ _; omega)
    have hS1 := fun (V : World) (cb : Nat) (p q r s : Value) (i : IsB V cb (calmB y1 [] 0 p q r s)) (k : Kp w10 V) (hc : w10.heap.size ≤ cb) (hrow : ∀ k, (calmB y1 [] 0 p q r s).row k → w10.heap.size ≤ k) =>
      step_off V w7.heap.size cb g.off _ (calm_rb HB1.out.1 HB1.out.2.1 HB1.out.2.2 i k hc hrow) (calmB_ok _ _ _ _ _ _ _ wE1 (fun i => by show (0 : Int) ≤ 0 ∧ (0 : Int) < _; omega) (by omega)) HG.out.2.2.R (.inl rfl)
    go_upto_region 17 with (first
      | (go_at_call 14; refine hC1.mono ?_; rintro e wa1 ⟨cb1, p1, q1, r1, s1, rfl, i1, j1, l1, t1⟩)
      | (go_at_call 9; refine (hS1 wa1 cb1 p1 q1 r1 s1 i1 j1 l1 t1).mono ?_; rintro e wb1 ⟨rfl, v1, gr1, bb1, kk1, ll1⟩; have R1 := hq cb1 p1 q1 r1 s1; rw [R1.1]; have P1 := R1.2.1; clear R1; generalize (insS (g.off.st cb1) (calmB y1 [] 0 p1 q1 r1 s1)).g = g1 at *; rw [show rsc rs1 = [.int .i64 1, .int .i64 1, .int .u32 0, .int .i64 0, .int .u32 0, .int .i64 0, .bool false, .int .u32 0, .bool false, .int .u64 0] from rfl]))
    obtain ⟨wc1, hwc1⟩ : ∃ wc, wc = wb1.alloc (.cells #[.int .i64 1, .int .i64 1, .int .u32 0, .int .i64 0, .int .u32 0, .int .i64 0, .bool false, .int .u32 0, .bool false, .int .u64 0] 38) := ⟨_, rfl⟩
    have n1 : wc1.heap[wb1.heap.size]? = some (.cells #[.int .i64 1, .int .i64 1, .int .u32 0, .int .i64 0, .int .u32 0, .int .i64 0, .bool false, .int .u32 0, .bool false, .int .u64 0] 38 (0, 0)) := by rw [hwc1]; exact heap_alloc_new wb1 _
    have kc1 : Kp wb1 wc1 := by rw [hwc1]; exact (Chg.refl wb1 _).alloc _
    rw [← hwc1]
    clear hwc1
    have KK1 : Chg w10 wc1 (fun k => k = w7.heap.size) := Chg.trans (T := fun _ => False) (Chg.trans (T := fun k => k = w7.heap.size ∨ (calmB y1 [] 0 p1 q1 r1 s1).own cb1 k) (Kp.any j1) kk1 (fun j hj e => by
      rcases e with e | e
      · exact e
      · have := calmB_own _ _ _ _ _ _ _ _ _ e; omega)) kc1 (fun _ _ e => e.elim)
    obtain ⟨o0, o2, o3, z8, z9, z10, lt0, K10⟩ := HRS.out
    have HB2 : Hid (IsRg wc1 w8.heap.size g.off ∧ Gt wc1 ∧ 2 ≤ w8.heap.size) := ⟨o2.chg KK1 (by omega), (HG.out.1.keep K10).chg KK1 (by have := HG.out.2.1; omega) (by have := HG.out.2.1; omega), by have := HG.out.2.1; omega⟩
    have HR1 : Hid (IsRg wc1 w.heap.size g.off ∧ IsRg wc1 w7.heap.size g1 ∧ IsRg wc1 w9.heap.size g.off ∧ w10.heap.size ≤ wb1.heap.size ∧ wb1.heap.size < wc1.heap.size ∧ Chg w10 wc1 (fun k => k = w7.heap.size)) := ⟨o0.chg KK1 (by omega), gr1.kp kc1, o3.chg KK1 (by omega), Nat.le_trans j1.size kk1.size, hp_lt n1, KK1⟩
    have HN1 : Hid (wc1.heap[wb1.heap.size]? = some (.cells #[.int .i64 1, .int .i64 1, .int .u32 0, .int .i64 0, .int .u32 0, .int .i64 0, .bool false, .int .u32 0, .bool false, .int .u64 0] 38 (0, 0))) := n1
    clear o0 o2 o3 z8 z9 z10 lt0 K10 KK1 gr1 kc1 kk1 j1 n1 bb1 ll1 i1 l1 t1 hC1 hS1 HB1
    have hC2 := calm_any wc1 y2 0 (.slice none 0 0) [] (rw_none _ _) (fun g e => by cases e) (by show 0 * 4 ≤ _; omega)
    have hS2 := fun (V : World) (cb : Nat) (p q r s : Value) (i : IsB V cb (calmB y2 [] 0 p q r s)) (k : Kp wc1 V) (hc : wc1.heap.size ≤ cb) (hrow : ∀ k, (calmB y2 [] 0 p q r s).row k → wc1.heap.size ≤ k) =>
      step_off V w8.heap.size cb g.off _ (calm_rb HB2.out.1 HB2.out.2.1 HB2.out.2.2 i k hc hrow) (calmB_ok _ _ _ _ _ _ _ wE2 (fun i => by show (0 : Int) ≤ 0 ∧ (0 : Int) < _; omega) (by omega)) HG.out.2.2.R (.inl rfl)
    go_upto_region 18 with (first
      | (go_at_call 14; refine hC2.mono ?_; rintro e wa2 ⟨cb2, p2, q2, r2, s2, rfl, i2, j2, l2, t2⟩)
      | (go_at_call 9; refine (hS2 wa2 cb2 p2 q2 r2 s2 i2 j2 l2 t2).mono ?_; rintro e wb2 ⟨rfl, v2, gr2, bb2, kk2, ll2⟩; have R2 := hq cb2 p2 q2 r2 s2; rw [R2.2.2.1]; have P2 := R2.2.2.2; clear R2; generalize (insS (g.off.st cb2) (calmB y2 [] 0 p2 q2 r2 s2)).g = g2 at *; rw [show rsc rs1 = [.int .i64 1, .int .i64 1, .int .u32 0, .int .i64 0, .int .u32 0, .int .i64 0, .bool false, .int .u32 0, .bool false, .int .u64 0] from rfl]))
    obtain ⟨wc2, hwc2⟩ : ∃ wc, wc = wb2.alloc (.cells #[.int .i64 1, .int .i64 1, .int .u32 0, .int .i64 0, .int .u32 0, .int .i64 0, .bool false, .int .u32 0, .bool false, .int .u64 0] 38) := ⟨_, rfl⟩
    have n2 : wc2.heap[wb2.heap.size]? = some (.cells #[.int .i64 1, .int .i64 1, .int .u32 0, .int .i64 0, .int .u32 0, .int .i64 0, .bool false, .int .u32 0, .bool false, .int .u64 0] 38 (0, 0)) := by rw [hwc2]; exact heap_alloc_new wb2 _
    have kc2 : Kp wb2 wc2 := by rw [hwc2]; exact (Chg.refl wb2 _).alloc _
    rw [← hwc2]
    clear hwc2
    have KK2 : Chg wc1 wc2 (fun k => k = w8.heap.size) := Chg.trans (T := fun _ => False) (Chg.trans (T := fun k => k = w8.heap.size ∨ (calmB y2 [] 0 p2 q2 r2 s2).own cb2 k) (Kp.any j2) kk2 (fun j hj e => by
      rcases e with e | e
      · exact e
      · have := calmB_own _ _ _ _ _ _ _ _ _ e; omega)) kc2 (fun _ _ e => e.elim)
    obtain ⟨o0, o2, o3, z8, z9, z10, lt0, K10⟩ := HRS.out
    obtain ⟨u0, u1, u3, u4, u5, u6⟩ := HR1.out
    have HB3 : Hid (IsRg wc2 w9.heap.size g.off ∧ Gt wc2 ∧ 2 ≤ w9.heap.size) := ⟨u3.chg KK2 (by omega), HB2.out.2.1.chg KK2 (by have := HG.out.2.1; omega) (by have := HG.out.2.1; omega), by have := HG.out.2.1; omega⟩
    have z1c := u6.size
    have HR2 : Hid (IsRg wc2 w.heap.size g.off ∧ IsRg wc2 w7.heap.size g1 ∧ IsRg wc2 w8.heap.size g2 ∧ wc1.heap.size ≤ wb2.heap.size ∧ wb2.heap.size < wc2.heap.size ∧ Chg wc1 wc2 (fun k => k = w8.heap.size)) := ⟨u0.chg KK2 (by omega), u1.chg KK2 (by omega), gr2.kp kc2, Nat.le_trans j2.size kk2.size, hp_lt n2, KK2⟩
    have HN2 : Hid (wc2.heap[wb1.heap.size]? = some (.cells #[.int .i64 1, .int .i64 1, .int .u32 0, .int .i64 0, .int .u32 0, .int .i64 0, .bool false, .int .u32 0, .bool false, .int .u64 0] 38 (0, 0)) ∧ wc2.heap[wb2.heap.size]? = some (.cells #[.int .i64 1, .int .i64 1, .int .u32 0, .int .i64 0, .int .u32 0, .int .i64 0, .bool false, .int .u32 0, .bool false, .int .u64 0] 38 (0, 0))) := ⟨KK2.heap HN1.out (by omega), n2⟩
    clear o0 o2 o3 z8 z9 z10 lt0 K10 KK2 gr2 kc2 kk2 j2 n2 bb2 ll2 i2 l2 t2 hC2 hS2 HB2 u0 u1 u3 u4 u5 u6 z1c HN1
    have hC3 := calm_any wc2 y3 0 (.slice none 0 0) [] (rw_none _ _) (fun g e => by cases e) (by show 0 * 4 ≤ _; omega)
    have hS3 := fun (V : World) (cb : Nat) (p q r s : Value) (i : IsB V cb (calmB y3 [] 0 p q r s)) (k : Kp wc2 V) (hc : wc2.heap.size ≤ cb) (hrow : ∀ k, (calmB y3 [] 0 p q r s).row k → wc2.heap.size ≤ k) =>
      step_off V w9.heap.size cb g.off _ (calm_rb HB3.out.1 HB3.out.2.1 HB3.out.2.2 i k hc hrow) (calmB_ok _ _ _ _ _ _ _ wE3 (fun i => by show (0 : Int) ≤ 0 ∧ (0 : Int) < _; omega) (by omega)) HG.out.2.2.R (.inl rfl)
    go_upto_region 19 with (first
      | (go_at_call 14; refine hC3.mono ?_; rintro e wa3 ⟨cb3, p3, q3, r3, s3, rfl, i3, j3, l3, t3⟩)
      | (go_at_call 9; refine (hS3 wa3 cb3 p3 q3 r3 s3 i3 j3 l3 t3).mono ?_; rintro e wb3 ⟨rfl, v3, gr3, bb3, kk3, ll3⟩; have R3 := hJ cb3 p3 q3 r3 s3; rw [R3.1]; have P3 := R3.2.1; have Q3 := R3.2.2; clear R3; generalize (insS (g.off.st cb3) (calmB y3 [] 0 p3 q3 r3 s3)).g = g3 at *; rw [show rsc rs1 = [.int .i64 1, .int .i64 1, .int .u32 0, .int .i64 0, .int .u32 0, .int .i64 0, .bool false, .int .u32 0, .bool false, .int .u64 0] from rfl]))
    obtain ⟨wc3, hwc3⟩ : ∃ wc, wc = wb3.alloc (.cells #[.int .i64 1, .int .i64 1, .int .u32 0, .int .i64 0, .int .u32 0, .int .i64 0, .bool false, .int .u32 0, .bool false, .int .u64 0] 38) := ⟨_, rfl⟩
    have n3 : wc3.heap[wb3.heap.size]? = some (.cells #[.int .i64 1, .int .i64 1, .int .u32 0, .int .i64 0, .int .u32 0, .int .i64 0, .bool false, .int .u32 0, .bool false, .int .u64 0] 38 (0, 0)) := by rw [hwc3]; exact heap_alloc_new wb3 _
    have kc3 : Kp wb3 wc3 := by rw [hwc3]; exact (Chg.refl wb3 _).alloc _
    rw [← hwc3]
    clear hwc3
    have KK3 : Chg wc2 wc3 (fun k => k = w9.heap.size) := Chg.trans (T := fun _ => False) (Chg.trans (T := fun k => k = w9.heap.size ∨ (calmB y3 [] 0 p3 q3 r3 s3).own cb3 k) (Kp.any j3) kk3 (fun j hj e => by
      rcases e with e | e
      · exact e
      · have := calmB_own _ _ _ _ _ _ _ _ _ e; omega)) kc3 (fun _ _ e => e.elim)
    obtain ⟨o0, o2, o3, z8, z9, z10, lt0, K10⟩ := HRS.out
    obtain ⟨_, _, _, u4, u5, u6⟩ := HR1.out
    obtain ⟨v0, v1, v2, v4, v5, v6⟩ := HR2.out
    have z1c := u6.size
    have z2c := v6.size
    have e0 := (v0.chg KK3 (by omega)).cell 16 (.int .u32 g.pc) rfl
    have e1 := (v1.chg KK3 (by omega)).cell 16 (.int .u32 g1.pc) rfl
    have e2 := (v2.chg KK3 (by omega)).cell 16 (.int .u32 g2.pc) rfl
    have e3 := (gr3.kp kc3).cell 16 (.int .u32 g3.pc) rfl
    have e4 := (gr3.kp kc3).cell 1 (.int .u32 (g3.R 1)) rfl
    have a1 : wc3.cell? ⟨wb1.heap.size, 0, none⟩ = some (.int .i64 1) := by rw [(cells_at (KK3.heap HN2.out.1 (by omega)) 0).1]; rfl
    have a2 : wc3.cell? ⟨wb2.heap.size, 0, none⟩ = some (.int .i64 1) := by rw [(cells_at (KK3.heap HN2.out.2 (by omega)) 0).1]; rfl
    have a3 : wc3.cell? ⟨wb3.heap.size, 0, none⟩ = some (.int .i64 1) := by rw [(cells_at n3 0).1]; rfl
    rw [P1] at e1
    rw [P2] at e2
    rw [P3] at e3
    rw [Q3] at e4
    have HE : Hid (Kp w wc3) := Chg.trans (T := fun k => k = w7.heap.size ∨ k = w8.heap.size ∨ k = w9.heap.size) K10 (Chg.trans (T := fun k => k = w9.heap.size) (Chg.trans (T := fun k => k = w8.heap.size) (Chg.mono u6 (fun _ _ e => .inl e)) v6 (fun _ _ e => .inr (.inl e))) KK3 (fun _ _ e => .inr (.inr e))) (fun i hi e => by omega)
    clear o0 o2 o3 z8 z9 z10 lt0 K10 KK3 gr3 kc3 kk3 j3 n3 bb3 ll3 i3 l3 t3 hC3 hS3 HB3 u4 u5 u6 z1c z2c v0 v1 v2 v4 v5 v6 HN2 HR1 HR2 P1 P2 P3 Q3 hE1 hE2 hE3 hq hJ HR3 HN HRS
    simp only [bTo, bOn, show g.off.pc = g.pc from rfl] at e1 e2 e3 e4
    go_upto_region 21 with (fail)
    generalize (g.pc + 4 * (i % 4294967296) % 4294967296) % 4294967296 = T at *
    generalize (g.pc + 4) % 4294967296 = N at *
    cases q
    · have e1' : wc3.cell? ⟨w7.heap.size, 16, none⟩ = some (.int .u32 N) := e1
      have e2' : wc3.cell? ⟨w8.heap.size, 16, none⟩ = some (.int .u32 T) := e2
      clear e1 e2
      by_cases hTN : N = T
      · subst hTN
        go_wp2_with fail
        go_ret
        exact ⟨rfl, HE.out⟩
      · have hb : (N == T) = false := by simpa using hTN
        go_wp2_with fail
        go_ret
        exact ⟨rfl, HE.out⟩
    · have e1' : wc3.cell? ⟨w7.heap.size, 16, none⟩ = some (.int .u32 T) := e1
      have e2' : wc3.cell? ⟨w8.heap.size, 16, none⟩ = some (.int .u32 N) := e2
      clear e1 e2
      go_wp2_with fail
      go_ret
      exact ⟨rfl, HE.out⟩
end Go.Proofs.YtghiffpolacmiaaDoor
