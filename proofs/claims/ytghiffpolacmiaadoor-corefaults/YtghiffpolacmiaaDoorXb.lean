import Derived.Test.YtghiffpolacmiaaDoorXa
import Derived.Test.YtghiffpolacmiaaDoorWg
namespace Go.Proofs.YtghiffpolacmiaaDoor
open Go.ChangeShapes Go.WideShapes Go.ChangeAt Go.RowKit
set_option linter.unusedVariables false

theorem build34_F (w : World) (q0 q1 q2 : Nat) (wd f d c : Int) : (Instr.build 34 #[(0, .slice (some ⟨q0, 0, none⟩) 1 1), (3, .slice (some ⟨q1, 0, none⟩) 2 2), (2, .slice (some ⟨q2, 0, none⟩) 1 1), (5, .int .i64 (-1))]).run Tryd.prog w = .ok (.agg (bxc (fltB wd f d c (.slice (some ⟨q0, 0, none⟩) 1 1) (.slice none 0 0) (.slice (some ⟨q2, 0, none⟩) 1 1) (.slice (some ⟨q1, 0, none⟩) 2 2))).toArray) w := by kernel_rfl
theorem fltB_own (wd f1 f2 cy : Int) (a b c d : Value) (cb k : Nat) (h : (fltB wd f1 f2 cy a b c d).own cb k) : k = cb := by
  rcases h with e | e
  · exact e
  · cases e
theorem fltB_ok (wd f1 f2 cy : Int) (a b c d : Value) (hw : 0 ≤ wd ∧ wd < 4294967296) : (fltB wd f1 f2 cy a b c d).ok :=
  ⟨⟨Nat.zero_le _, Nat.zero_le _, Nat.zero_le _, Nat.zero_le _, Nat.zero_le _⟩, by show (0 : Int) ≤ 0 ∧ (0 : Int) < _; omega, fun i => by show (0 : Int) ≤ 0 ∧ (0 : Int) < _; omega, fun i => by
    show 0 ≤ nxt [wd] i ∧ nxt [wd] i < 4294967296
    unfold nxt
    rw [show min i ([wd].length - 1) = 0 by simp]
    exact hw⟩
/-- The bus of that law as it is laid. -/
theorem fltB_is (w w0 w1 w2 w3 : World) (wd f d c : Int) (h0 : w0 = w.alloc (.cells #[.int .u32 wd] 22)) (h1 : w1 = w0.alloc (.cells #[.int .i64 f, .int .i64 d] 36)) (h2 : w2 = w1.alloc (.cells #[.int .i64 c] 3))
    (h3 : w3 = w2.alloc (.cells (bxc (fltB wd f d c (.slice (some ⟨w.heap.size, 0, none⟩) 1 1) (.slice none 0 0) (.slice (some ⟨w1.heap.size, 0, none⟩) 1 1) (.slice (some ⟨w0.heap.size, 0, none⟩) 2 2))).toArray 34)) :
    IsB w3 w2.heap.size (fltB wd f d c (.slice (some ⟨w.heap.size, 0, none⟩) 1 1) (.slice none 0 0) (.slice (some ⟨w1.heap.size, 0, none⟩) 1 1) (.slice (some ⟨w0.heap.size, 0, none⟩) 2 2)) ∧ Kp w w3 ∧ w0.heap.size = w.heap.size + 1 ∧ w1.heap.size = w.heap.size + 2 ∧ w2.heap.size = w.heap.size + 3 := by
  have k0 : Kp w w0 := by rw [h0]; exact (Chg.refl w _).alloc _
  have k1 : Kp w0 w1 := by rw [h1]; exact (Chg.refl w0 _).alloc _
  have k2 : Kp w1 w2 := by rw [h2]; exact (Chg.refl w1 _).alloc _
  have k3 : Kp w2 w3 := by rw [h3]; exact (Chg.refl w2 _).alloc _
  have z0 : w0.heap.size = w.heap.size + 1 := by rw [h0]; simp
  have z1 : w1.heap.size = w0.heap.size + 1 := by rw [h1]; simp
  have z2 : w2.heap.size = w1.heap.size + 1 := by rw [h2]; simp
  have z3 : w3.heap.size = w2.heap.size + 1 := by rw [h3]; simp
  have n0 : w0.heap[w.heap.size]? = some (.cells #[.int .u32 wd] 22 (0, 0)) := by rw [h0]; exact heap_alloc_new w _
  have n1 : w1.heap[w0.heap.size]? = some (.cells #[.int .i64 f, .int .i64 d] 36 (0, 0)) := by rw [h1]; exact heap_alloc_new w0 _
  have n2 : w2.heap[w1.heap.size]? = some (.cells #[.int .i64 c] 3 (0, 0)) := by rw [h2]; exact heap_alloc_new w1 _
  have m0 := Kp.heap k3 (Kp.heap k2 (Kp.heap k1 n0))
  have m1 := Kp.heap k3 (Kp.heap k2 n1)
  have m2 := Kp.heap k3 n2
  have m3 : w3.heap[w2.heap.size]? = some (.cells (bxc (fltB wd f d c (.slice (some ⟨w.heap.size, 0, none⟩) 1 1) (.slice none 0 0) (.slice (some ⟨w1.heap.size, 0, none⟩) 1 1) (.slice (some ⟨w0.heap.size, 0, none⟩) 2 2))).toArray 34 (0, 0)) := by rw [h3]; exact heap_alloc_new w2 _
  refine ⟨⟨m3, ⟨_, _, rfl, Nat.le_refl _, by show 1 < _; omega, .inr ⟨_, 0, rfl, hp_lt m0, fun i x hx => ?_⟩⟩, rw_none _ _, ⟨_, _, rfl, Nat.le_refl _, by show 1 < _; omega, .inr ⟨_, 0, rfl, hp_lt m2, fun i x hx => ?_⟩⟩, ⟨_, _, rfl, Nat.le_refl _, by show 2 < _; omega, .inr ⟨_, 0, rfl, hp_lt m1, fun i x hx => ?_⟩⟩, World.ownsRow_nil _ _ _ _, fun k hk => ?_, fun e => by cases e⟩, Kp.trans k0 (Kp.trans k1 (Kp.trans k2 k3)), z0, by omega, by omega⟩
  · rw [(cells_at m0 _).1, Nat.zero_add]
    cases i with
    | zero => cases hx; rfl
    | succ i => cases hx
  · rw [(cells_at m2 _).1, Nat.zero_add]
    cases i with
    | zero => cases hx; rfl
    | succ i => cases hx
  · rw [(cells_at m1 _).1, Nat.zero_add]
    match i, hx with
    | 0, hx => cases hx; rfl
    | 1, hx => cases hx; rfl
  · rcases hk with e | e | e | e
    · cases e
      exact ⟨by show w.heap.size ≠ _; omega, fun e => (by cases e), by show w.heap.size < _; omega⟩
    · cases e
    · cases e
      exact ⟨by show w1.heap.size ≠ _; omega, fun e => (by cases e), by show w1.heap.size < _; omega⟩
    · cases e
      exact ⟨by show w0.heap.size ≠ _; omega, fun e => (by cases e), by show w0.heap.size < _; omega⟩
/-- A log of one's own, as it lies. -/
theorem log_at {w : World} {v : Value} {lg : List Lg} (h : w.ownsRow 0 42 4 v lg.length (lg.flatMap Lg.cs)) (hn : 0 < lg.length) : ∃ q cap, v = .slice (some ⟨q, 0, none⟩) lg.length cap ∧ ∀ (i : Nat) u, (lg.flatMap Lg.cs)[i]? = some u → w.cell? ⟨q, i, none⟩ = some u := by
  rcases h.2 with ⟨_, h2⟩ | ⟨g, cap, cur, rfl, _, hg, _, _, _, htake⟩
  · omega
  · refine ⟨g, cap, rfl, fun i u hu => ?_⟩
    rw [(cells_at hg _).1, ← Array.getElem?_toList]
    rw [← htake, List.getElem?_take] at hu
    split at hu
    · exact hu
    · cases hu
set_option maxRecDepth 100000 in
set_option maxHeartbeats 4000000 in
theorem faults_walk (w : World) (hg : Gt w) (h2 : 2 ≤ w.heap.size) (wd : Int) (hwd : 0 ≤ wd ∧ wd < 4294967296) (g : Rg) (hr : g.ok) (f d c : Int) :
    Calls Tryd.prog 4 #[.int .u32 wd, .agg (rgc g).toArray, .int .i64 f, .int .i64 d, .int .i64 c] w fun e w' => e = .returned (.bool true) ∧ Kp w w' := by
  obtain ⟨w1, hw1⟩ : ∃ w1, w1 = w.alloc (.cells (rgc g).toArray 25) := ⟨_, rfl⟩
  have k1 : Kp w w1 := by rw [hw1]; exact (Chg.refl w _).alloc _
  have r1 : IsRg w1 w.heap.size g := by rw [hw1]; exact heap_alloc_new w _
  have hA := awake_any w1 (hg.keep k1) (Nat.le_trans h2 k1.size)
  have hz := fun w => zero25 w
  have HG : Hid (Gt w ∧ 2 ≤ w.heap.size ∧ g.ok) := ⟨hg, h2, hr⟩
  have HK1 : Hid (Kp w w1) := k1
  have hl25 : ∀ g, (Tryd.prog.info? 25).map (·.size) = some (rgc g).length := fun g => by rw [size25]; rfl
  have u25 := Tryd.underlying25
  clear hg h2 hr k1
  go_enter Tryd.func4, Tryd.ntmps4
  go_upto_region 1 with (first | (refine wpList_box_run rfl 25 (.tmp 1) rfl (rgc g).toArray rfl ?_))
  rw [← hw1]
  clear hw1
  go_upto_region 2 with (go_at_call 8; refine hA.mono ?_; rintro e w2 ⟨rfl, k2⟩)
  have r2 := r1.kp k2
  have c19 := r2.cell 19 _ rfl
  have f19 := r2.fr 19
  obtain ⟨r3, j3⟩ := r2.set 19 (.bool false) g.off rfl
  have c0 := r3.cell 0 _ rfl
  have f0 := r3.fr 0
  obtain ⟨r4, j4⟩ := r3.set 0 (.int .u32 0) g.off0 rfl
  have HR3 : Hid (IsRg _ w.heap.size g.off0 ∧ Chg w2 _ (fun k => k = w.heap.size)) := ⟨r4, Chg.trans j3 j4 (fun _ _ e => e)⟩
  clear r1 r2 r3 j3 hA r4 j4
  go_upto_region 4 with (fail)
  obtain ⟨w4, hw4⟩ : ∃ w4, w4 = ((w2.setCell ⟨w.heap.size, 19, none⟩ (.bool false)).setCell ⟨w.heap.size, 0, none⟩ (.int .u32 0)) := ⟨_, rfl⟩
  rw [← hw4] at HR3 ⊢
  clear hw4 c19 f19 c0 f0
  obtain ⟨w5, hst5, r5, k5, z5⟩ := copy_rg w4 w.heap.size g.off0 HR3.out.1
  have rr4 := HR3.out.1.range
  go_upto_region 5 with (first
    | (refine wpList_load_mid rfl 25 (.tmp 6) rfl w.heap.size 0 rfl (rgc g.off0) _ rr4 u25 rfl (hl25 _) ?_)
    | (refine wpList_store_row rfl 25 (.tmp 12) (.tmp 22) rfl w4.heap.size 0 (rgc g.off0).toArray rfl rfl _ hst5 ?_))
  clear hst5 rr4
  have kw4 : Kp w w4 := Chg.trans (Kp.trans HK1.out k2) HR3.out.2 (fun i hi e => by omega)
  obtain ⟨x0, hx0⟩ : ∃ x0, x0 = w5.alloc (.cells #[.int .u32 wd] 22) := ⟨_, rfl⟩
  obtain ⟨x1, hx1⟩ : ∃ x1, x1 = x0.alloc (.cells #[.int .i64 f, .int .i64 d] 36) := ⟨_, rfl⟩
  obtain ⟨x2, hx2⟩ : ∃ x2, x2 = x1.alloc (.cells #[.int .i64 c] 3) := ⟨_, rfl⟩
  obtain ⟨X, hX⟩ : ∃ X, X = fltB wd f d c (.slice (some ⟨w5.heap.size, 0, none⟩) 1 1) (.slice none 0 0) (.slice (some ⟨x1.heap.size, 0, none⟩) 1 1) (.slice (some ⟨x0.heap.size, 0, none⟩) 2 2) := ⟨_, rfl⟩
  obtain ⟨x3, hx3⟩ : ∃ x3, x3 = x2.alloc (.cells (bxc X).toArray 34) := ⟨_, rfl⟩
  obtain ⟨iX, kX, q0, q1, q2⟩ := fltB_is w5 x0 x1 x2 x3 wd f d c hx0 hx1 hx2 (by rw [← hX]; exact hx3)
  have hC := copied_any x3 x2.heap.size _ iX rfl rfl ⟨by show 1 * 4 ≤ _; omega, by show 0 * 4 ≤ _; omega, by show 1 * 8 ≤ _; omega, by show 2 * 8 ≤ _; omega⟩
  have hb := fun w0 => build34_F w0 w5.heap.size x0.heap.size x1.heap.size wd f d c
  rw [← hX] at hb hC
  have hXr : ∀ a b e h, X.rows a b e h = fltB wd f d c a b e h := fun a b e h => by rw [hX]; rfl
  have lt5 : w4.heap.size < w5.heap.size := hp_lt r5
  have HB : Hid (IsRg x3 w4.heap.size g.off0 ∧ IsRg x3 w.heap.size g.off0 ∧ Gt x3 ∧ Kp w x3 ∧ w.heap.size < w4.heap.size ∧ w4.heap.size < x3.heap.size ∧ 2 ≤ w.heap.size) := ⟨r5.kp kX, (HR3.out.1.kp k5).kp kX, HG.out.1.keep (Kp.trans kw4 (Kp.trans k5 kX)), Kp.trans kw4 (Kp.trans k5 kX), hp_lt HR3.out.1, by have := kX.size; omega, HG.out.2.1⟩
  rw [q0, q1] at hb
  rw [q2] at hC
  rw [hx2, hx1, hx0] at hx3
  clear iX kX hX hx0 hx1 hx2 q0 q1 q2 r5 k5 z5 kw4 lt5
  generalize (bxc X).toArray = BX at *
  go_upto_region 6 with (first
    | (refine wpList_build4 rfl 34 0 3 2 5 (.tmp 24) (.tmp 27) (.tmp 29) _ rfl (.slice (some ⟨w5.heap.size, 0, none⟩) 1 1) (.slice (some ⟨w5.heap.size + 1, 0, none⟩) 2 2) (.slice (some ⟨w5.heap.size + 2, 0, none⟩) 1 1) (.int .i64 (-1)) rfl rfl rfl rfl (.agg BX) (hb _) ?_)
    | (refine wpList_box_run rfl 34 (.tmp 30) rfl BX rfl ?_))
  rw [← hx3]
  clear hx3 hb
  go_upto_region 7 with (go_at_call 10; refine hC.mono ?_; rintro e y0 ⟨cb, p, q, r, s, rfl, iC, kC, lC, rC⟩)
  rw [hXr] at iC rC
  have hS := step_off y0 w4.heap.size cb g.off0 _ ⟨HB.out.1.kp kC, iC, HB.out.2.2.1.keep kC, by have := HB.out; omega, fun k hk => (by
    have := HB.out
    rcases hk with e | e
    · have := fltB_own _ _ _ _ _ _ _ _ _ _ e; omega
    · have := rC k e; omega), fun k hk => (by
    have := HB.out
    have := fltB_own _ _ _ _ _ _ _ _ _ _ hk; omega)⟩ (fltB_ok _ _ _ _ _ _ _ _ hwd) (up_r HG.out.2.2.R 0 0 (by omega)) (.inl rfl)
  have hF := flt_any g cb wd f d c p q r s
  go_upto_region 8 with (go_at_call 9; refine hS.mono ?_; rintro e y1 ⟨rfl, v1, gr, ib, kk, ll⟩; generalize insB (g.off0.st cb) (fltB wd f d c p q r s) = Y at *; generalize insS (g.off0.st cb) (fltB wd f d c p q r s) = T at *; rw [show rsc T.r = [.int .i64 T.r.kind, .int .i64 T.r.cyc, .int .u32 T.r.num, .int .i64 T.r.flt, .int .u32 T.r.addr, .int .i64 T.r.line, .bool T.r.lod, .int .u32 T.r.val, .bool T.r.rd, .int .u64 T.r.clk] from rfl])
  obtain ⟨R, hR⟩ : ∃ R, R = T.r := ⟨_, rfl⟩
  rw [← hR]
  have hlt := HB.out
  obtain ⟨wc, hwc⟩ : ∃ wc, wc = y1.alloc (.cells #[.int .i64 R.kind, .int .i64 R.cyc, .int .u32 R.num, .int .i64 R.flt, .int .u32 R.addr, .int .i64 R.line, .bool R.lod, .int .u32 R.val, .bool R.rd, .int .u64 R.clk] 38) := ⟨_, rfl⟩
  have kc : Kp y1 wc := by rw [hwc]; exact (Chg.refl y1 _).alloc _
  have nc : wc.heap[y1.heap.size]? = some (.cells #[.int .i64 R.kind, .int .i64 R.cyc, .int .u32 R.num, .int .i64 R.flt, .int .u32 R.addr, .int .i64 R.line, .bool R.lod, .int .u32 R.val, .bool R.rd, .int .u64 R.clk] 38 (0, 0)) := by rw [hwc]; exact heap_alloc_new y1 _
  rw [← hwc]
  clear hwc
  have hno : ∀ k, k < x3.heap.size → k ≠ w4.heap.size → ¬ (k = w4.heap.size ∨ (fltB wd f d c p q r s).own cb k) := fun k hk hn => by
    rintro (e | e)
    · exact hn e
    · have := fltB_own _ _ _ _ _ _ _ _ _ _ e; omega
  have r0 : IsRg wc w.heap.size g.off0 := ((HB.out.2.1.kp kC).chg kk (hno _ (by omega) (by omega))).kp kc
  have ra2 := r0.range
  have e16 := r0.cell 16 (.int .u32 g.off0.pc) rfl
  have HE : Hid (Kp w wc) := Kp.trans (Chg.trans (Kp.trans HB.out.2.2.2.1 kC) kk (fun i hi e => by
    rcases e with e | e
    · omega
    · have := fltB_own _ _ _ _ _ _ _ _ _ _ e; omega)) kc
  have e0 : wc.cell? ⟨y1.heap.size, 0, none⟩ = some (.int .i64 R.kind) := by rw [(cells_at nc 0).1]; rfl
  have e1 : wc.cell? ⟨y1.heap.size, 1, none⟩ = some (.int .i64 R.cyc) := by rw [(cells_at nc 1).1]; rfl
  have e3 : wc.cell? ⟨y1.heap.size, 3, none⟩ = some (.int .i64 R.flt) := by rw [(cells_at nc 3).1]; rfl
  have e4 : wc.cell? ⟨y1.heap.size, 4, none⟩ = some (.int .u32 R.addr) := by rw [(cells_at nc 4).1]; rfl
  have e6 : wc.cell? ⟨y1.heap.size, 6, none⟩ = some (.bool R.lod) := by rw [(cells_at nc 6).1]; rfl
  have e7 : wc.cell? ⟨y1.heap.size, 7, none⟩ = some (.int .u32 R.val) := by rw [(cells_at nc 7).1]; rfl
  unfold FltOk at hF
  rw [← hR] at hF
  clear nc hS hC hXr iC rC lC hR hno r0 hlt hl25 hz hwd
  generalize R.kind = kd at *
  generalize R.cyc = cy at *
  generalize R.flt = fl at *
  generalize R.addr = ad at *
  rcases hF with ⟨h1, rfl, rfl⟩ | ⟨rfl, h2, h3, h4, h5, rfl, h6⟩
  · have b1 : (kd == 3) = false := by simpa using h1
    clear ib gr kk kC ra2 u25
    go_wp2_with fail
    go_ret
    exact ⟨rfl, HE.out⟩
  · rw [h2] at e6
    rw [h3] at e7
    have gr' : IsRg y1 w4.heap.size g.off0 := by
      have := gr
      unfold IsRg at this ⊢
      rw [← h5]
      exact this
    have ra1 := (gr'.kp kc).range
    have hn0 : 0 < Y.lg.length := by
      rcases h6 with ⟨_, _, _, h⟩ | ⟨_, ⟨a, b, h, _⟩, _⟩ | ⟨_, h, _⟩
      · omega
      · rw [h]; simp
      · omega
    obtain ⟨lq, lcap, rfl, hlg⟩ := log_at (lg := Y.lg) ib.lg hn0
    have c7 := (ib.kp kc).cell 7 (.slice (some ⟨lq, 0, none⟩) Y.lg.length lcap) rfl
    have hl : (Tryd.prog.info? 25).map (·.size) = some (rgc g.off0).length := by rw [size25]; rfl
    have hq := fun w => neq25 g.off0 w
    have hgu := fun w x y => eqg25 w .neq x y (rgc g.off0).toArray (rgc g.off0).toArray
    have b4 : (fl == 0) = false := by simpa using h4
    obtain ⟨N, hN⟩ : ∃ N, Y.lg.length = N := ⟨_, rfl⟩
    have HL : Hid (∀ (i : Nat) u, (Y.lg.flatMap Lg.cs)[i]? = some u → wc.cell? ⟨lq, i, none⟩ = some u) := fun i u hu => Kp.cell kc (hlg i u hu)
    have H6 : Hid _ := h6
    rw [hN] at c7 e1
    have HN : Hid (Y.lg.length = N) := hN
    clear ib gr gr' kk kC h2 h3 h4 h5 h6 hn0 hlg hN
    generalize rgc g.off0 = LL at *
    rcases H6.out with ⟨hf, rfl, rfl, h1⟩ | ⟨rfl, ⟨a0, a1, hlg, rfl⟩, rfl⟩ | ⟨rfl, h1, rfl, rfl⟩
    · have bN : ((N : Int) == 1) = true := by rw [← HN.out, h1]; rfl
      have bf : (fl == 0) = false := by simpa using hf
      clear hf h1 H6 HN HL
      go_wp2_with (first
      | (refine gload_mid (by kernel_rfl) 25 (.tmp 12) rfl w4.heap.size 0 rfl LL _ ra1 u25 rfl hl ?_; simp only [Act.put, List.setIfInBounds_toArray, List.set_cons_zero, List.set_cons_succ])
      | (refine gload_mid (by kernel_rfl) 25 (.tmp 6) rfl w.heap.size 0 rfl LL _ ra2 u25 rfl hl ?_; simp only [Act.put, List.setIfInBounds_toArray, List.set_cons_zero, List.set_cons_succ])
      | (refine gbinop_run (by kernel_rfl) .neq 25 25 (.tmp 62) (.tmp 63) rfl (.agg LL.toArray) (.agg LL.toArray) (.bool false) rfl rfl (hgu _ _ _) (hq _) ?_; simp only [Act.put, List.setIfInBounds_toArray, List.set_cons_zero, List.set_cons_succ]; clear hq hgu ra1 ra2 u25 hl))
      go_ret
      exact ⟨rfl, HE.out⟩
    · have bN : ((N : Int) == 2) = true := by rw [← HN.out, hlg]; rfl
      have hN1 : (1 : Int) < (N : Int) := by have := HN.out; rw [hlg] at this; simp at this; omega
      have c5 := HL.out 5 (.int .u32 a1.at') (by rw [hlg]; rfl)
      clear H6 HN HL hlg
      go_wp2_with (first
      | (refine gload_mid (by kernel_rfl) 25 (.tmp 12) rfl w4.heap.size 0 rfl LL _ ra1 u25 rfl hl ?_; simp only [Act.put, List.setIfInBounds_toArray, List.set_cons_zero, List.set_cons_succ])
      | (refine gload_mid (by kernel_rfl) 25 (.tmp 6) rfl w.heap.size 0 rfl LL _ ra2 u25 rfl hl ?_; simp only [Act.put, List.setIfInBounds_toArray, List.set_cons_zero, List.set_cons_succ])
      | (refine gbinop_run (by kernel_rfl) .neq 25 25 (.tmp 62) (.tmp 63) rfl (.agg LL.toArray) (.agg LL.toArray) (.bool false) rfl rfl (hgu _ _ _) (hq _) ?_; simp only [Act.put, List.setIfInBounds_toArray, List.set_cons_zero, List.set_cons_succ]; clear hq hgu ra1 ra2 u25 hl))
      go_quiet (fail)
      go_wp2_with fail
      go_ret
      exact ⟨rfl, (HE.out).drewN _⟩
    · have bN : ((N : Int) == 2) = false := by rw [← HN.out, h1]; rfl
      clear h1 H6 HN HL
      go_wp2_with (first
      | (refine gload_mid (by kernel_rfl) 25 (.tmp 12) rfl w4.heap.size 0 rfl LL _ ra1 u25 rfl hl ?_; simp only [Act.put, List.setIfInBounds_toArray, List.set_cons_zero, List.set_cons_succ])
      | (refine gload_mid (by kernel_rfl) 25 (.tmp 6) rfl w.heap.size 0 rfl LL _ ra2 u25 rfl hl ?_; simp only [Act.put, List.setIfInBounds_toArray, List.set_cons_zero, List.set_cons_succ])
      | (refine gbinop_run (by kernel_rfl) .neq 25 25 (.tmp 62) (.tmp 63) rfl (.agg LL.toArray) (.agg LL.toArray) (.bool false) rfl rfl (hgu _ _ _) (hq _) ?_; simp only [Act.put, List.setIfInBounds_toArray, List.set_cons_zero, List.set_cons_succ]; clear hq hgu ra1 ra2 u25 hl))
      go_ret
      exact ⟨rfl, HE.out⟩
end Go.Proofs.YtghiffpolacmiaaDoor
