import Derived.Test.YtghiffpolacmiabDoorYp
import Derived.Test.YtghiffpolacmiabDoorYs
import Derived.Test.YtghiffpolacmiabDoorUy
import Derived.Test.YtghiffpolacmiabDoorWz
namespace Go.Proofs.YtghiffpolacmiabDoor
open Go.ChangeShapes Go.WideShapes Go.ChangeAt Go.RowKit
set_option linter.unusedVariables false

theorem zero25 (w : World) : (zeroValue 25).run Tryd.prog w = .ok (.agg (rgc Rg.zero).toArray) w := zeroOf w (by kernel_rfl)
/-- Registers written whole into a new box. -/
theorem new_rg (W : World) (g : Rg) : ∃ W', (storeVar 25 ⟨W.heap.size, 0, none⟩ (.agg (rgc g).toArray)).run Tryd.prog (W.alloc (.cells (rgc Rg.zero).toArray 25)) = .ok () W' ∧ IsRg W' W.heap.size g ∧ Kp W W' ∧ W'.heap.size = W.heap.size + 1 := by
  have n6 : (W.alloc (.cells (rgc Rg.zero).toArray 25)).heap[W.heap.size]? = some (.cells (rgc Rg.zero).toArray 25 (0, 0)) := heap_alloc_new W _
  refine ⟨_, storeAll (W.alloc (.cells (rgc Rg.zero).toArray 25)) 25 W.heap.size _ (rgc g).toArray 25 n6 rfl (by rw [size25]; rfl) (by simpa using rgc_one g), setRow_heap _ _ _ _ 25 (0, 0) n6, Chg.setRow ((Chg.refl W _).alloc _) (.inr (Nat.le_refl _)) _, by simp [World.setRow]⟩
def Rg.off (g : Rg) : Rg := ⟨g.R, g.pc, g.vec, g.back, false, g.hd⟩
def Rg.mix (g o : Rg) (rd k : Nat) : Rg := ⟨mixR rd g.R o.R k, g.pc, g.vec, g.back, g.on, g.hd⟩
theorem mix_one (g o : Rg) (rd : Nat) : rgc (g.mix o rd 1) = rgc g := by
  have : mixR rd g.R o.R 1 = g.R := by
    funext j
    unfold mixR
    rw [if_neg (by omega)]
  unfold Rg.mix
  rw [this]
theorem mix_keep (g o : Rg) (rd k : Nat) (h : ¬ rd / 2 ^ k % 2 = 0) : g.mix o rd (k + 1) = g.mix o rd k := by
  unfold Rg.mix
  congr 1
  funext j
  unfold mixR
  by_cases hj : j = k
  · subst hj
    rw [if_neg (fun e => h e.2.2), if_neg (fun e => h e.2.2)]
  · by_cases hc : 0 < j ∧ j < k ∧ rd / 2 ^ j % 2 = 0
    · rw [if_pos hc, if_pos ⟨hc.1, by omega, hc.2.2⟩]
    · rw [if_neg hc, if_neg (fun e => hc ⟨e.1, by omega, e.2.2⟩)]
theorem mix_put (g o : Rg) (rd k : Nat) (h0 : 0 < k) (h : rd / 2 ^ k % 2 = 0) : (g.mix o rd k).put k (o.R k) = g.mix o rd (k + 1) := by
  unfold Rg.mix Rg.put
  congr 1
  funext j
  show upR (mixR rd g.R o.R k) k (o.R k) j = mixR rd g.R o.R (k + 1) j
  unfold upR mixR
  by_cases hj : j = k
  · subst hj
    rw [if_pos rfl, if_pos ⟨h0, by omega, h⟩]
  · rw [if_neg hj]
    by_cases hc : 0 < j ∧ j < k ∧ rd / 2 ^ j % 2 = 0
    · rw [if_pos hc, if_pos ⟨hc.1, by omega, hc.2.2⟩]
    · rw [if_neg hc, if_neg (fun e => hc ⟨e.1, by omega, e.2.2⟩)]
theorem bit_int (rd j : Nat) : ((rd : Int) / 2 ^ j).tmod 2 = ((rd / 2 ^ j % 2 : Nat) : Int) := by
  have e : ((rd : Int) / 2 ^ j) = ((rd / 2 ^ j : Nat) : Int) := by
    rw [Int.natCast_ediv]
    norm_cast
  rw [e]
  rfl
theorem Rb.kp {w w' : World} {G bb : Nat} {g : Rg} {x : Bd} (h : Rb w G bb g x) (k : Kp w w') : Rb w' G bb g x := ⟨h.r.kp k, h.b.kp k, h.g.keep k, h.G2, h.ne, h.o2⟩
theorem IsRg.at {w : World} {B : Nat} {g : Rg} (h : IsRg w B g) (j : Nat) (hj : j < 16) : w.cell? ⟨B, j, none⟩ = some (.int .u32 (g.R j)) := h.cell j _ (rgc_R g j hj)
theorem doB_len (n : Nat) (t : St) (y : Bd) : (doB n t y).lg.length ≤ y.lg.length + 1 := by
  unfold doB
  split
  all_goals first
    | exact Nat.le_succ _
    | (show (y.lg ++ [_]).length ≤ _; simp)
theorem fields43 : Tryd.prog.underlying 43 = some (.struct (Tryd.prog.fieldsOf 43)) := by simp [Program.fieldsOf, Tryd.underlying43]
theorem stood43 : Tryd.prog.stoodInHeld 43 = false := by kernel_rfl
theorem neq43 (r : Rs) (w : World) : (binOp BinOp.neq 43 (.agg (rsc r).toArray) (.agg (rsc r).toArray)).run Tryd.prog w = .ok (.bool false) w := by
  rw [run_neq_struct, run_equalIn_agg w 9999 43 _ _ fields43 stood43]
  simp [Program.fieldsOf, Tryd.underlying43, go_sem, rsc]
theorem guard43 : Tryd.prog.eqGuardType Tryd.prog.depth 43 = false := by kernel_rfl
theorem eqg43 (w : World) (b : BinOp) (x y : Operand) (A C : Array Value) : (eqGuard b 43 x y (.agg A) (.agg C)).run Tryd.prog w = .ok () w := run_eqGuard_agg w b 43 x y A C guard43
set_option maxRecDepth 100000 in
set_option maxHeartbeats 4000000 in
theorem touches_walk (w : World) (hg : Gt w) (h2 : 2 ≤ w.heap.size) (v : Nat) (hv : v < 4294967296) (g o : Rg) (hr : ∀ i, 0 ≤ g.R i ∧ g.R i < 4294967296) (hro : ∀ i, 0 ≤ o.R i ∧ o.R i < 4294967296) (vv : Value) (vs : List Int) (hvv : Rw w .u32 vv vs) (hvs : vs.length * 4 ≤ 140737488355328) (hvr : ∀ i, 0 ≤ nxt vs i ∧ nxt vs i < 4294967296) (tm : Int) (htm : 0 ≤ tm ∧ tm < 18446744073709551616) :
    Calls Tryd.prog 3 #[.int .u32 (v : Nat), .agg (rgc g).toArray, .agg (rgc o).toArray, vv, .int .u64 tm] w fun e w' => e = .returned (.bool true) ∧ Kp w w' := by
  obtain ⟨w1, hw1⟩ : ∃ w1, w1 = w.alloc (.cells (rgc g).toArray 25) := ⟨_, rfl⟩
  obtain ⟨w2, hw2⟩ : ∃ w2, w2 = w1.alloc (.cells (rgc o).toArray 25) := ⟨_, rfl⟩
  have k1 : Kp w w1 := by rw [hw1]; exact (Chg.refl w _).alloc _
  have k2 : Kp w1 w2 := by rw [hw2]; exact (Chg.refl w1 _).alloc _
  have z1 : w1.heap.size = w.heap.size + 1 := by rw [hw1]; simp
  have r1 : IsRg w1 w.heap.size g := by rw [hw1]; exact heap_alloc_new w _
  have r2 : IsRg w2 (w.heap.size + 1) o := by rw [hw2, ← z1]; exact heap_alloc_new w1 _
  have r1' := r1.kp k2
  have K2 := Kp.trans k1 k2
  have z2 : w2.heap.size = w.heap.size + 2 := by rw [hw2]; simp [z1]
  have hA := awake_any w2 (hg.keep K2) (Nat.le_trans h2 K2.size)
  have hz := fun w => zero25 w
  have hl25 : ∀ g, (Tryd.prog.info? 25).map (·.size) = some (rgc g).length := fun g => by rw [size25]; rfl
  have u25 := Tryd.underlying25
  have hD := fun W (k : Kp w W) => Decode_any W (hg.keep k) v hv
  have HG : Hid (Gt w ∧ 2 ≤ w.heap.size ∧ (∀ i, 0 ≤ g.R i ∧ g.R i < 4294967296) ∧ (∀ i, 0 ≤ o.R i ∧ o.R i < 4294967296) ∧ Rw w .u32 vv vs ∧ True ∧ vs.length * 4 ≤ 140737488355328 ∧ (∀ i, 0 ≤ nxt vs i ∧ nxt vs i < 4294967296) ∧ (0 ≤ tm ∧ tm < 18446744073709551616) ∧ v < 4294967296) := ⟨hg, h2, hr, hro, hvv, trivial, hvs, hvr, htm, hv⟩
  have H2 : Hid (Kp w w2 ∧ IsRg w2 w.heap.size g ∧ IsRg w2 (w.heap.size + 1) o ∧ w2.heap.size = w.heap.size + 2) := ⟨K2, r1', r2, z2⟩
  rw [hw1] at hw2
  clear hg h2 hr hro hvv hvs hvr htm hv k1 k2 z1 r1 r2 r1' K2 z2 hw1
  go_enter Tryd.func3, Tryd.ntmps3
  go_upto_region 1 with (first | (refine wpList_box_run rfl 25 (.tmp 1) rfl (rgc g).toArray rfl ?_) | (refine wpList_box_run rfl 25 (.tmp 2) rfl (rgc o).toArray rfl ?_))
  rw [← hw2]
  clear hw2
  go_upto_region 2 with (go_at_call 4; refine hA.mono ?_; rintro e w3 ⟨rfl, k3⟩)
  have K3 := Kp.trans H2.out.1 k3
  have hD3 := hD w3 K3
  unfold iv at hD3
  by_cases hde : de v = 0
  · have e0 : ∀ x, at0 (de v) x = x := fun x => by rw [hde]; rfl
    simp only [e0] at hD3
    rw [hde] at hD3
    go_upto_region 3 with (go_at_call 5; refine hD3.mono ?_; rintro e w4 ⟨rfl, k4⟩)
    obtain ⟨w5, hw5⟩ : ∃ w5, w5 = w4.alloc (.cells #[.int .i64 (dO v), .int .u8 (dD v : Nat), .int .u8 (dA v : Nat), .int .u8 (dB v : Nat), .int .i32 (dI v)] 31) := ⟨_, rfl⟩
    have n5 : w5.heap[w4.heap.size]? = some (.cells #[.int .i64 (dO v), .int .u8 (dD v : Nat), .int .u8 (dA v : Nat), .int .u8 (dB v : Nat), .int .i32 (dI v)] 31 (0, 0)) := by rw [hw5]; exact heap_alloc_new w4 _
    have k5 : Kp w4 w5 := by rw [hw5]; exact (Chg.refl w4 _).alloc _
    rw [← hw5]
    clear hw5
    have K25 := Kp.trans k3 (Kp.trans k4 k5)
    have r5 := H2.out.2.1.kp K25
    have o5 := H2.out.2.2.1.kp K25
    have c19 := r5.cell 19 _ rfl
    have f19 := r5.fr 19
    obtain ⟨r6, j6⟩ := r5.set 19 (.bool false) g.off rfl
    obtain ⟨w6, hw6⟩ : ∃ w6, w6 = w5.setCell ⟨w.heap.size, 19, none⟩ (.bool false) := ⟨_, rfl⟩
    rw [← hw6] at r6 j6
    have lt4 : w.heap.size + 2 ≤ w4.heap.size := by rw [← H2.out.2.2.2]; exact (Kp.trans k3 k4).size
    have n6 := j6.heap n5 (by omega)
    have o6 := o5.chg j6 (by omega)
    have K6 : Kp w w6 := Chg.trans (Kp.trans K3 (Kp.trans k4 k5)) j6 (fun i hi e => by omega)
    obtain ⟨b0, b1, b2, b3, b4, _⟩ := cells5 n6
    obtain ⟨hck, _⟩ := enc_dec hde
    obtain ⟨u1, u2, u3, u4⟩ := uR_eq hck
    have hU := Uses_any w6 (HG.out.1.keep K6) (dO v) (dD v) (dA v) (dB v) (dI v)
    rw [u1, u2] at hU
    unfold iv at hU
    obtain ⟨rd, hrd⟩ : ∃ rd, rd = rdN (dO v) (dA v) (dB v) := ⟨_, rfl⟩
    obtain ⟨wr', hwr⟩ : ∃ wr', wr' = wrN (dO v) (dD v) := ⟨_, rfl⟩
    rw [← hrd, ← hwr] at hU
    have H6 : Hid (IsRg w6 w.heap.size g.off ∧ IsRg w6 (w.heap.size + 1) o ∧ Kp w w6 ∧ w6.heap[w4.heap.size]? = some (.cells #[.int .i64 (dO v), .int .u8 (dD v : Nat), .int .u8 (dA v : Nat), .int .u8 (dB v : Nat), .int .i32 (dI v)] 31 (0, 0)) ∧ w.heap.size + 2 ≤ w4.heap.size ∧ w4.heap.size < w6.heap.size) := ⟨r6, o6, K6, n6, lt4, hp_lt n6⟩
    have HR : Hid (rd = rdN (dO v) (dA v) (dB v) ∧ wr' = wrN (dO v) (dD v) ∧ rd < 65536 ∧ wr' < 65536 ∧ de v = 0) := ⟨hrd, hwr, by rw [hrd]; exact u3, by rw [hwr]; exact u4, hde⟩
    clear n5 k5 K25 r5 o5 r6 j6 lt4 n6 o6 K6 hck u1 u2 u3 u4 hrd hwr hde e0 hD3 hD hA K3 k3 k4
    generalize hop : dO v = op at *
    have HOP : Hid (dO v = op) := hop
    clear hop
    generalize (dD v : Int) = dd at *
    generalize (dA v : Int) = da at *
    generalize (dB v : Int) = db at *
    generalize dI v = di at *
    go_upto_region 6 with (fail)
    rw [← hw6]
    clear hw6 c19 f19
    go_upto_region 7 with (go_at_call 6; refine hU.mono ?_; rintro e w7 ⟨rfl, k7⟩)
    clear hU b0 b1 b2 b3 b4
    obtain ⟨w8, hst8, r8, k8, z8⟩ := new_rg w7 g.off
    have rr7 := (H6.out.1.kp k7).range
    have H8 : Hid (IsRg w8 w7.heap.size g.off ∧ Kp w6 w8 ∧ w8.heap.size = w7.heap.size + 1 ∧ w6.heap.size ≤ w7.heap.size) := ⟨r8, Kp.trans k7 k8, z8, k7.size⟩
    clear r8 k8 z8
    go_upto_region 8 with (first
      | (refine wpList_load_mid rfl 25 (.tmp 6) rfl w.heap.size 0 rfl (rgc g.off) _ rr7 u25 rfl (hl25 _) ?_)
      | (refine wpList_store_row rfl 25 (.tmp 16) (.tmp 45) rfl w7.heap.size 0 (rgc g.off).toArray rfl rfl _ hst8 ?_))
    clear hst8 rr7 k7
    go_wp2
    go_loopw [17] (fun s17 wr => ∃ j : Nat, s17 = .int .i64 j ∧ 1 ≤ j ∧ j ≤ 16 ∧ Hid (IsRg wr w7.heap.size (g.off.mix o rd j) ∧ Chg w8 wr (fun k => k = w7.heap.size))) (fun s17 _ => 16 - (intOf s17).toNat)
    case atStart => exact ⟨1, rfl, by omega, by omega, ⟨by unfold IsRg; rw [mix_one]; exact H8.out.1, Chg.refl _ _⟩⟩
    case round =>
      obtain ⟨j, rfl, hj1, hj, HI⟩ := hrel
      by_cases hlt : j < 16
      · have hjz : (j : Int) < 16 := by omega
        have bI := bit_int rd j
        have K8 := H8.out
        have H6o := H6.out
        have oj := (((H6o.2.1.kp K8.2.1).chg HI.out.2 (by omega))).at j hlt
        by_cases hbit : rd / 2 ^ j % 2 = 0
        · have hb : (((rd : Int) / 2 ^ j).tmod 2 == 0) = true := by rw [bI, hbit]; rfl
          have sj := HI.out.1.at j hlt
          have fj := HI.out.1.fr j
          obtain ⟨i9, c9⟩ := HI.out.1.set j (.int .u32 (o.R j)) _ (rgc_put _ j hlt _)
          rw [mix_put _ _ _ _ (by omega) hbit] at i9
          have HX : Hid (IsRg _ w7.heap.size (g.off.mix o rd (j + 1)) ∧ Chg w8 _ (fun k => k = w7.heap.size)) := ⟨i9, Chg.trans HI.out.2 c9 (fun _ _ e => e)⟩
          clear i9 c9 bI K8 H6o
          go_wp2_with fail
          exact ⟨⟨j + 1, by go_num, by omega, by omega, HX⟩, by simp [intOf]; omega⟩
        · have hb : (((rd : Int) / 2 ^ j).tmod 2 == 0) = false := by
            rw [bI, show rd / 2 ^ j % 2 = 1 by omega]; rfl
          have HX : Hid (IsRg wr w7.heap.size (g.off.mix o rd (j + 1)) ∧ Chg w8 wr (fun k => k = w7.heap.size)) := by rw [mix_keep _ _ _ _ hbit]; exact HI.out
          clear bI K8 H6o
          go_wp2_with fail
          exact ⟨⟨j + 1, by go_num, by omega, by omega, HX⟩, by simp [intOf]; omega⟩
      · have hjz : ¬ ((j : Int) < 16) := by omega
        obtain rfl : j = 16 := by omega
        rename World => x0
        have H6o := H6.out
        have K8 := H8.out
        have lt7 : w7.heap.size < x0.heap.size := hp_lt HI.out.1
        obtain ⟨gs, hgs⟩ : ∃ gs, gs = g.off.mix o rd 16 := ⟨_, rfl⟩
        have rs0 : IsRg x0 w7.heap.size gs := by rw [hgs]; exact HI.out.1
        have rg0 : IsRg x0 w.heap.size g.off := (H6o.1.kp K8.2.1).chg HI.out.2 (by omega)
        have n0 := HI.out.2.heap (Kp.heap K8.2.1 H6o.2.2.2.1) (by omega)
        have K0 : Kp w x0 := Chg.trans (Kp.trans H6o.2.2.1 K8.2.1) HI.out.2 (fun i hi e => by omega)
        obtain ⟨x1, hst1, r1, k1, z1⟩ := new_rg x0 g.off
        obtain ⟨x2, hst2, r2, k2, z2⟩ := new_rg x1 gs
        have rr0 := rg0.range
        have rr1 := (rs0.kp k1).range
        have K2 : Kp w x2 := Kp.trans K0 (Kp.trans k1 k2)
        have hC1 := calm_gen x2 (v : Nat) tm vv vs (HG.out.2.2.2.2.1.chg K2 (fun _ _ h => h)) HG.out.2.2.2.2.2.2.1
        have hC2 := fun W (k : Kp x2 W) => calm_gen W (v : Nat) tm vv vs (HG.out.2.2.2.2.1.chg (Kp.trans K2 k) (fun _ _ h => h)) HG.out.2.2.2.2.2.2.1
        have hgsR : ∀ i, 0 ≤ gs.R i ∧ gs.R i < 4294967296 := fun i => by
          rw [hgs]
          show 0 ≤ mixR rd g.R o.R 16 i ∧ mixR rd g.R o.R 16 i < 4294967296
          unfold mixR
          split
          · exact HG.out.2.2.2.1 i
          · exact HG.out.2.2.1 i
        have HA : Hid (IsRg x2 x0.heap.size g.off ∧ IsRg x2 x1.heap.size gs ∧ IsRg x2 w.heap.size g.off ∧ IsRg x2 w7.heap.size gs ∧ Kp w x2 ∧ x1.heap.size = x0.heap.size + 1 ∧ x2.heap.size = x1.heap.size + 1 ∧ w7.heap.size < x0.heap.size ∧ w.heap.size + 2 ≤ w7.heap.size ∧ Gt x2 ∧ (∀ i, 0 ≤ gs.R i ∧ gs.R i < 4294967296) ∧ x2.heap[w4.heap.size]? = some (.cells #[.int .i64 op, .int .u8 dd, .int .u8 da, .int .u8 db, .int .i32 di] 31 (0, 0)) ∧ w4.heap.size < w7.heap.size) := ⟨r1.kp k2, r2, (rg0.kp k1).kp k2, (rs0.kp k1).kp k2, K2, z1, z2, lt7, by omega, HG.out.1.keep K2, hgsR, Kp.heap k2 (Kp.heap k1 n0), by omega⟩
        have HS : Hid (gs = g.off.mix o rd 16) := hgs
        clear H6o K8 lt7 hgs rs0 rg0 n0 K0 r1 k1 z1 r2 k2 z2 K2 hgsR HI H8
        go_upto_region 14 with (first
          | (refine wpList_load_mid rfl 25 (.tmp 6) rfl w.heap.size 0 rfl (rgc g.off) _ rr0 u25 rfl (hl25 _) ?_)
          | (refine wpList_store_row rfl 25 (.tmp 18) (.tmp 62) rfl x0.heap.size 0 (rgc g.off).toArray rfl rfl _ hst1 ?_))
        go_upto_region 15 with (first
          | (refine wpList_load_mid rfl 25 (.tmp 16) rfl w7.heap.size 0 rfl (rgc gs) _ rr1 u25 rfl (hl25 _) ?_)
          | (refine wpList_store_row rfl 25 (.tmp 19) (.tmp 63) rfl x1.heap.size 0 (rgc gs).toArray rfl rfl _ hst2 ?_))
        clear hst1 hst2 rr0 rr1 hz
        go_upto_region 16 with (go_at_call 7; refine hC1.mono ?_; rintro e x3 ⟨cb, p1, p2, p3, p4, rfl, i3, k3, l3, t3⟩)
        go_upto_region 17 with (go_at_call 7; refine (hC2 x3 k3).mono ?_; rintro e x4 ⟨cc, q1, q2, q3, q4, rfl, i4, k4, l4, t4⟩)
        clear hC1 hC2
        obtain ⟨a0, a1, a2, a3, a4, a5, a6, a7, a8, a9, a10, a11, a12⟩ := HA.out
        have hcb := hp_lt i3.box
        have hcc := hp_lt i4.box
        have R4 : Rb x4 x0.heap.size cb g.off (calmB (v : Nat) vs tm p1 p2 p3 p4) := (calm_rb a0 a9 (by omega) i3 k3 l3 t3).kp k4
        have hS1 := step_off x4 x0.heap.size cb g.off _ R4 (calmB_ok _ _ _ _ _ _ _ (by have := HG.out.2.2.2.2.2.2.2.2.2; omega) HG.out.2.2.2.2.2.2.2.1 HG.out.2.2.2.2.2.2.2.2.1) HG.out.2.2.1 (.inl rfl)
        have Q4 : Rb x4 x1.heap.size cc gs (calmB (v : Nat) vs tm q1 q2 q3 q4) := calm_rb (a1.kp k3) (a9.keep k3) (by omega) i4 k4 l4 t4
        obtain ⟨f1, f2, f3, f4, f5, f6, f7⟩ := touch_fin g.off o v HR.out.2.2.2.2 vs tm cb cc p1 p2 p3 p4 q1 q2 q3 q4 gs (by rw [HS.out, HR.out.1, ← HOP.out]; rfl)
        have hlen : (insB (g.off.st cb) (calmB (v : Nat) vs tm p1 p2 p3 p4)).lg.length < 1000000 := by
          rw [(ins_calm g.off cb v vs tm p1 p2 p3 p4 HR.out.2.2.2.2).2]
          have := doB_len (dO v).toNat (((g.off.st cb).c0 (calmB (v : Nat) vs tm p1 p2 p3 p4)).ins v) ((calmB (v : Nat) vs tm p1 p2 p3 p4).fet g.off.pc)
          have e : ((calmB (v : Nat) vs tm p1 p2 p3 p4).fet g.off.pc).lg.length = 1 := rfl
          omega
        have hrow1 := insB_row (g.off.st cb) (calmB (v : Nat) vs tm p1 p2 p3 p4)
        have hS2 := fun W (k : Rb W x1.heap.size cc gs (calmB (v : Nat) vs tm q1 q2 q3 q4)) => step_off W x1.heap.size cc gs _ k (calmB_ok _ _ _ _ _ _ _ (by have := HG.out.2.2.2.2.2.2.2.2.2; omega) HG.out.2.2.2.2.2.2.2.1 HG.out.2.2.2.2.2.2.2.2.1) a10 (.inl (by rw [HS.out]; rfl))
        generalize insS (g.off.st cb) (calmB (v : Nat) vs tm p1 p2 p3 p4) = S1 at *
        generalize insB (g.off.st cb) (calmB (v : Nat) vs tm p1 p2 p3 p4) = Y1 at *
        generalize insS (gs.st cc) (calmB (v : Nat) vs tm q1 q2 q3 q4) = S2 at *
        generalize insB (gs.st cc) (calmB (v : Nat) vs tm q1 q2 q3 q4) = Y2 at *
        have HF : Hid (S1.r = S2.r ∧ S1.g.pc = S2.g.pc ∧ S1.g.vec = S2.g.vec ∧ S1.g.R 0 = 0 ∧ S2.g.R 0 = 0 ∧ Y1.lg = Y2.lg ∧ Y1.lg.length < 1000000) := ⟨f1, f2, f3, f4, f5, f6, hlen⟩
        have HF7 : Hid _ := f7
        have HW : Hid (Rb x4 x0.heap.size cb g.off (calmB (v : Nat) vs tm p1 p2 p3 p4) ∧ Rb x4 x1.heap.size cc gs (calmB (v : Nat) vs tm q1 q2 q3 q4) ∧ Kp x2 x4 ∧ x2.heap.size ≤ cb ∧ cb < x3.heap.size ∧ x3.heap.size ≤ cc ∧ cc < x4.heap.size ∧ (∀ k, (calmB (v : Nat) vs tm p1 p2 p3 p4).row k → x2.heap.size ≤ k ∧ k < x3.heap.size) ∧ (∀ k, (calmB (v : Nat) vs tm q1 q2 q3 q4).row k → x3.heap.size ≤ k) ∧ ∀ k, Y1.row k ↔ (calmB (v : Nat) vs tm p1 p2 p3 p4).row k) := ⟨R4, Q4, Kp.trans k3 k4, l3, hcb, l4, hcc, fun k hk => ⟨t3 k hk, (i3.ap k hk).2.2⟩, t4, hrow1⟩
        clear f1 f2 f3 f4 f5 f6 f7 hlen hrow1 R4 Q4 i3 i4 k3 k4 l3 l4 t3 t4 hcb hcc a0 a1 a2 a3 a4 a5 a6 a7 a8 a9 a10 a11 a12
        go_upto_region 18 with (go_at_call 8; refine hS1.mono ?_; rintro e x5 ⟨rfl, v1, g5, b5, c5, l5⟩; rw [show rsc S1.r = [.int .i64 S1.r.kind, .int .i64 S1.r.cyc, .int .u32 S1.r.num, .int .i64 S1.r.flt, .int .u32 S1.r.addr, .int .i64 S1.r.line, .bool S1.r.lod, .int .u32 S1.r.val, .bool S1.r.rd, .int .u64 S1.r.clk] from rfl])
        obtain ⟨R, hR⟩ : ∃ R, R = S1.r := ⟨_, rfl⟩
        rw [← hR]
        have HRr : Hid (R = S1.r) := hR
        clear hR
        obtain ⟨w1', w2', w3', w4', w5', w6', w7', w8', w9', w10'⟩ := HW.out
        obtain ⟨a0, a1, a2, a3, a4, a5, a6, a7, a8, a9, a10, a11, a12⟩ := HA.out
        obtain ⟨x6, hx6⟩ : ∃ x6, x6 = x5.alloc (.cells #[.int .i64 R.kind, .int .i64 R.cyc, .int .u32 R.num, .int .i64 R.flt, .int .u32 R.addr, .int .i64 R.line, .bool R.lod, .int .u32 R.val, .bool R.rd, .int .u64 R.clk] 43) := ⟨_, rfl⟩
        have n6 : x6.heap[x5.heap.size]? = some (.cells #[.int .i64 R.kind, .int .i64 R.cyc, .int .u32 R.num, .int .i64 R.flt, .int .u32 R.addr, .int .i64 R.line, .bool R.lod, .int .u32 R.val, .bool R.rd, .int .u64 R.clk] 43 (0, 0)) := by rw [hx6]; exact heap_alloc_new x5 _
        have k6 : Kp x5 x6 := by rw [hx6]; exact (Chg.refl x5 _).alloc _
        rw [← hx6]
        clear hx6
        have z4 := w3'.size
        have z5 := c5.size
        have hno : ∀ k, k ≠ x0.heap.size → k ≠ cb → ¬ (k = x0.heap.size ∨ (calmB (v : Nat) vs tm p1 p2 p3 p4).own cb k) := fun k h1 h2 => by
          rintro (e | e)
          · exact h1 e
          · exact h2 (calmB_own _ _ _ _ _ _ _ _ _ e)
        have R6 : Rb x6 x1.heap.size cc gs (calmB (v : Nat) vs tm q1 q2 q3 q4) := by
          refine Rb.kp ⟨w2'.r.chg c5 (hno _ (by omega) (by omega)), w2'.b.chg c5 (fun k _ hk => ?_), w2'.g.chg c5 (hno _ (by omega) (by omega)) (hno _ (by omega) (by omega)), w2'.G2, w2'.ne, w2'.o2⟩ k6
          rcases hk with hk | hk
          · have := calmB_own _ _ _ _ _ _ _ _ _ hk
            exact hno _ (by omega) (by omega)
          · have := w9' k hk
            exact hno _ (by omega) (by omega)
        have hS2' := hS2 x6 R6
        have H5 : Hid (IsRg x6 x0.heap.size S1.g ∧ IsB x6 cb (Y1.lvTo v1) ∧ IsRg x6 w.heap.size g.off ∧ IsRg x6 w7.heap.size gs ∧ Kp w x6 ∧ x6.heap[w4.heap.size]? = some (.cells #[.int .i64 op, .int .u8 dd, .int .u8 da, .int .u8 db, .int .i32 di] 31 (0, 0)) ∧ x6.heap[x5.heap.size]? = some (.cells #[.int .i64 R.kind, .int .i64 R.cyc, .int .u32 R.num, .int .i64 R.flt, .int .u32 R.addr, .int .i64 R.line, .bool R.lod, .int .u32 R.val, .bool R.rd, .int .u64 R.clk] 43 (0, 0)) ∧ x4.heap.size ≤ x5.heap.size ∧ x5.heap.size < x6.heap.size ∧ (∀ k, v1.ownBlock = some k → x4.heap.size ≤ k)) := by
          refine ⟨g5.kp k6, b5.kp k6, ((a2.kp w3').chg c5 (hno _ (by omega) (by omega))).kp k6, ((a3.kp w3').chg c5 (hno _ (by omega) (by omega))).kp k6, Kp.trans (Chg.trans (Kp.trans a4 w3') c5 (fun i hi e => ?_)) k6, Kp.heap k6 (c5.heap (Kp.heap w3' a11) (hno _ (by omega) (by omega))), n6, z5, hp_lt n6, fun k hk => ?_⟩
          · rcases e with e | e
            · omega
            · have := calmB_own _ _ _ _ _ _ _ _ _ e; omega
          · rcases l5 with l | ⟨j, l, hj⟩
            · rw [l] at hk; cases hk
            · rw [l] at hk; cases hk; exact hj
        clear hS1 hS2 R6 hno z4 z5 n6 k6 g5 b5 c5 l5 w1' w2' w3' w4' w5' w6' w7' w8' w9' w10' a0 a1 a2 a3 a4 a5 a6 a7 a8 a9 a10 a11 a12
        go_upto_region 19 with (go_at_call 8; refine hS2'.mono ?_; rintro e x7 ⟨rfl, v2, g7, b7, c7, l7⟩; rw [← HF.out.1, ← HRr.out]; rw [show rsc R = [.int .i64 R.kind, .int .i64 R.cyc, .int .u32 R.num, .int .i64 R.flt, .int .u32 R.addr, .int .i64 R.line, .bool R.lod, .int .u32 R.val, .bool R.rd, .int .u64 R.clk] from rfl])
        clear hS2'
        obtain ⟨w1', w2', w3', w4', w5', w6', w7', w8', w9', w10'⟩ := HW.out
        obtain ⟨a0, a1, a2, a3, a4, a5, a6, a7, a8, a9, a10, a11, a12⟩ := HA.out
        obtain ⟨d0, d1, d2, d3, d4, d5, d6, d7, d8, d9⟩ := H5.out
        obtain ⟨x8, hx8⟩ : ∃ x8, x8 = x7.alloc (.cells #[.int .i64 R.kind, .int .i64 R.cyc, .int .u32 R.num, .int .i64 R.flt, .int .u32 R.addr, .int .i64 R.line, .bool R.lod, .int .u32 R.val, .bool R.rd, .int .u64 R.clk] 43) := ⟨_, rfl⟩
        have n8 : x8.heap[x7.heap.size]? = some (.cells #[.int .i64 R.kind, .int .i64 R.cyc, .int .u32 R.num, .int .i64 R.flt, .int .u32 R.addr, .int .i64 R.line, .bool R.lod, .int .u32 R.val, .bool R.rd, .int .u64 R.clk] 43 (0, 0)) := by rw [hx8]; exact heap_alloc_new x7 _
        have k8 : Kp x7 x8 := by rw [hx8]; exact (Chg.refl x7 _).alloc _
        rw [← hx8]
        clear hx8
        have z4 := w3'.size
        have z7 := c7.size
        have hno : ∀ k, k ≠ x1.heap.size → k ≠ cc → ¬ (k = x1.heap.size ∨ (calmB (v : Nat) vs tm q1 q2 q3 q4).own cc k) := fun k h1 h2 => by
          rintro (e | e)
          · exact h1 e
          · exact h2 (calmB_own _ _ _ _ _ _ _ _ _ e)
        have i8 : IsB x8 cb (Y1.lvTo v1) := (d1.chg c7 (fun k _ hk => by
          rcases hk with (e | e) | e
          · exact hno _ (by omega) (by omega)
          · have := d9 k e; exact hno _ (by omega) (by omega)
          · have := w8' k ((w10' k).1 e); exact hno _ (by omega) (by omega))).kp k8
        have hSm := same_any x8 cb cc _ _ i8 (b7.kp k8) HF.out.2.2.2.2.2.1 HF.out.2.2.2.2.2.2
        have H8' : Hid (IsRg x8 x0.heap.size S1.g ∧ IsRg x8 x1.heap.size S2.g ∧ IsRg x8 w.heap.size g.off ∧ IsRg x8 w7.heap.size gs ∧ Kp w x8 ∧ x8.heap[w4.heap.size]? = some (.cells #[.int .i64 op, .int .u8 dd, .int .u8 da, .int .u8 db, .int .i32 di] 31 (0, 0)) ∧ x8.heap[x5.heap.size]? = some (.cells #[.int .i64 R.kind, .int .i64 R.cyc, .int .u32 R.num, .int .i64 R.flt, .int .u32 R.addr, .int .i64 R.line, .bool R.lod, .int .u32 R.val, .bool R.rd, .int .u64 R.clk] 43 (0, 0)) ∧ x8.heap[x7.heap.size]? = some (.cells #[.int .i64 R.kind, .int .i64 R.cyc, .int .u32 R.num, .int .i64 R.flt, .int .u32 R.addr, .int .i64 R.line, .bool R.lod, .int .u32 R.val, .bool R.rd, .int .u64 R.clk] 43 (0, 0))) := by
          refine ⟨(d0.chg c7 (hno _ (by omega) (by omega))).kp k8, g7.kp k8, (d2.chg c7 (hno _ (by omega) (by omega))).kp k8, (d3.chg c7 (hno _ (by omega) (by omega))).kp k8, Kp.trans (Chg.trans d4 c7 (fun i hi e => ?_)) k8, Kp.heap k8 (c7.heap d5 (hno _ (by omega) (by omega))), Kp.heap k8 (c7.heap d6 (hno _ (by omega) (by omega))), n8⟩
          rcases e with e | e
          · omega
          · have := calmB_own _ _ _ _ _ _ _ _ _ e; omega
        clear hno z4 z7 n8 k8 g7 b7 c7 l7 w1' w2' w3' w4' w5' w6' w7' w8' w9' w10' a0 a1 a2 a3 a4 a5 a6 a7 a8 a9 a10 a11 a12 d0 d1 d2 d3 d4 d5 d6 d7 d8 d9 i8 H5 HW HA
        go_upto_region 20 with (go_at_call 9; refine hSm.mono ?_; rintro e x9 ⟨rfl, k9⟩)
        clear hSm
        have H9 : Hid (IsRg x9 x0.heap.size S1.g ∧ IsRg x9 x1.heap.size S2.g ∧ IsRg x9 w.heap.size g.off ∧ IsRg x9 w7.heap.size gs ∧ Kp w x9) := ⟨H8'.out.1.kp k9, H8'.out.2.1.kp k9, H8'.out.2.2.1.kp k9, H8'.out.2.2.2.1.kp k9, Kp.trans H8'.out.2.2.2.2.1 k9⟩
        have ep := H9.out.1.cell 16 (.int .u32 S1.g.pc) rfl
        have eq1 := H9.out.2.1.cell 16 (.int .u32 S2.g.pc) rfl
        have ev := H9.out.1.cell 17 (.int .u32 S1.g.vec) rfl
        have ew1 := H9.out.2.1.cell 17 (.int .u32 S2.g.vec) rfl
        have er1 := H9.out.1.cell 0 (.int .u32 (S1.g.R 0)) rfl
        have er2 := H9.out.2.1.cell 0 (.int .u32 (S2.g.R 0)) rfl
        rw [HF.out.2.1] at ep
        rw [HF.out.2.2.1] at ev
        rw [HF.out.2.2.2.1] at er1
        rw [HF.out.2.2.2.2.1] at er2
        have eo : x9.cell? ⟨w4.heap.size, 0, none⟩ = some (.int .i64 op) := (cells_at (Kp.heap k9 H8'.out.2.2.2.2.2.1) 0).1
        have ra5 := rangeOf (o := 0) (Kp.heap k9 H8'.out.2.2.2.2.2.2.1) (rsc R) (fun j v hv => by rw [Nat.zero_add, ← Array.getElem?_toList]; exact hv)
        have ra7 := rangeOf (o := 0) (Kp.heap k9 H8'.out.2.2.2.2.2.2.2) (rsc R) (fun j v hv => by rw [Nat.zero_add, ← Array.getElem?_toList]; exact hv)
        have hq := fun w => neq43 R w
        have hgu := fun w x y => eqg43 w .neq x y (rsc R).toArray (rsc R).toArray
        have u43 := Tryd.underlying43
        have l43 : (Tryd.prog.info? 43).map (·.size) = some (rsc R).length := by rw [size38]; rfl
        generalize rsc R = LR at *
        generalize S2.g.pc = PC at *
        generalize S2.g.vec = VE at *
        clear H8' k9 hl25 u25
        by_cases h40' : op = 40
        · have b40 : (op == 40) = true := by simpa using h40'
          have h40 : Hid (op = 40) := h40'
          clear h40'
          go_wp2_with (first
            | (refine gload_mid (by kernel_rfl) 43 (.tmp 22) rfl x5.heap.size 0 rfl LR _ ra5 u43 rfl l43 ?_; simp only [Act.put, List.setIfInBounds_toArray, List.set_cons_zero, List.set_cons_succ])
            | (refine gload_mid (by kernel_rfl) 43 (.tmp 23) rfl x7.heap.size 0 rfl LR _ ra7 u43 rfl l43 ?_; simp only [Act.put, List.setIfInBounds_toArray, List.set_cons_zero, List.set_cons_succ])
            | (refine gbinop_run (by kernel_rfl) .neq 43 43 (.tmp 81) (.tmp 82) rfl (.agg LR.toArray) (.agg LR.toArray) (.bool false) rfl rfl (hgu _ _ _) (hq _) ?_; simp only [Act.put, List.setIfInBounds_toArray, List.set_cons_zero, List.set_cons_succ]))
          clear ra5 ra7 u43 l43 hgu hq ep eq1 ev ew1 er1 er2 eo
          go_loopw [25] (fun s25 wr => ∃ j : Nat, s25 = .int .i64 j ∧ 1 ≤ j ∧ j ≤ 16 ∧ Hid (Kp x9 wr)) (fun s25 _ => 16 - (intOf s25).toNat)
          case atStart => exact ⟨1, rfl, by omega, by omega, Kp.refl _⟩
          case round =>
            obtain ⟨j, rfl, hj1, hj, HI⟩ := hrel
            by_cases hlt : j < 16
            · have hjz : (j : Int) < 16 := by omega
              have e1 := (H9.out.1.kp HI.out).at j hlt
              have e2 := (H9.out.2.1.kp HI.out).at j hlt
              have e3 := (H9.out.2.2.1.kp HI.out).at j hlt
              have e4 := (H9.out.2.2.2.1.kp HI.out).at j hlt
              rcases HF7.out j (by omega) hlt with ⟨hm, _⟩ | ⟨hm, hx, hy⟩
              · rw [if_pos (HOP.out.trans h40.out)] at hm
                simp at hm
              · rw [hx] at e1
                rw [hy] at e2
                generalize gs.R j = B at *
                have e1' : wr.cell? ⟨x0.heap.size, j, none⟩ = some (.int .u32 (g.off.R j)) := e1
                generalize g.off.R j = A at *
                clear hx hy hm
                go_wp2_with fail
                go_quiet (fail)
                go_wp2
                exact ⟨⟨j + 1, by go_num, by omega, by omega, HI.out.drewN _⟩, by simp [intOf]; omega⟩
            · have hjz : ¬ ((j : Int) < 16) := by omega
              go_wp2_with fail
              go_ret
              exact ⟨rfl, Kp.trans H9.out.2.2.2.2 HI.out⟩
        · have b40 : (op == 40) = false := by simpa using h40'
          have h40 : Hid (¬ op = 40) := h40'
          clear h40'
          go_wp2_with (first
            | (refine gload_mid (by kernel_rfl) 43 (.tmp 22) rfl x5.heap.size 0 rfl LR _ ra5 u43 rfl l43 ?_; simp only [Act.put, List.setIfInBounds_toArray, List.set_cons_zero, List.set_cons_succ])
            | (refine gload_mid (by kernel_rfl) 43 (.tmp 23) rfl x7.heap.size 0 rfl LR _ ra7 u43 rfl l43 ?_; simp only [Act.put, List.setIfInBounds_toArray, List.set_cons_zero, List.set_cons_succ])
            | (refine gbinop_run (by kernel_rfl) .neq 43 43 (.tmp 81) (.tmp 82) rfl (.agg LR.toArray) (.agg LR.toArray) (.bool false) rfl rfl (hgu _ _ _) (hq _) ?_; simp only [Act.put, List.setIfInBounds_toArray, List.set_cons_zero, List.set_cons_succ]))
          clear ra5 ra7 u43 l43 hgu hq ep eq1 ev ew1 er1 er2 eo
          go_loopw [25] (fun s25 wr => ∃ j : Nat, s25 = .int .i64 j ∧ 1 ≤ j ∧ j ≤ 16 ∧ Hid (Kp x9 wr)) (fun s25 _ => 16 - (intOf s25).toNat)
          case atStart => exact ⟨1, rfl, by omega, by omega, Kp.refl _⟩
          case round =>
            obtain ⟨j, rfl, hj1, hj, HI⟩ := hrel
            by_cases hlt : j < 16
            · have hjz : (j : Int) < 16 := by omega
              have e1 := (H9.out.1.kp HI.out).at j hlt
              have e2 := (H9.out.2.1.kp HI.out).at j hlt
              have e3 := (H9.out.2.2.1.kp HI.out).at j hlt
              have e4 := (H9.out.2.2.2.1.kp HI.out).at j hlt
              have bI := bit_int wr' j
              rcases HF7.out j (by omega) hlt with ⟨hm, hx⟩ | ⟨hm, hx, hy⟩
              · rw [if_neg (fun e => h40.out (HOP.out.symm.trans e)), HOP.out, ← HR.out.2.1] at hm
                have hb : (((wr' : Int) / 2 ^ j).tmod 2 == 1) = true := by rw [bI, hm]; rfl
                rw [hx] at e1
                generalize S2.g.R j = A at *
                clear hx hm bI
                go_wp2_with fail
                go_quiet (fail)
                go_wp2
                exact ⟨⟨j + 1, by go_num, by omega, by omega, HI.out.drewN _⟩, by simp [intOf]; omega⟩
              · rw [if_neg (fun e => h40.out (HOP.out.symm.trans e)), HOP.out, ← HR.out.2.1] at hm
                have hb : (((wr' : Int) / 2 ^ j).tmod 2 == 1) = false := by rw [bI, hm]; rfl
                rw [hx] at e1
                rw [hy] at e2
                generalize gs.R j = B at *
                generalize g.off.R j = A at *
                clear hx hy hm bI
                go_wp2_with fail
                go_quiet (fail)
                go_wp2
                exact ⟨⟨j + 1, by go_num, by omega, by omega, HI.out.drewN _⟩, by simp [intOf]; omega⟩
            · have hjz : ¬ ((j : Int) < 16) := by omega
              go_wp2_with fail
              go_ret
              exact ⟨rfl, Kp.trans H9.out.2.2.2.2 HI.out⟩
  · have h0 := HG.out
    have hb : (de v == 0) = false := by simpa using hde
    have e0 : ∀ x, at0 (de v) x = 0 := fun x => by unfold at0; rw [if_neg hde]
    simp only [e0] at hD3
    generalize de v = dv at *
    clear h0 hde e0
    go_wp2_with (go_at_call 5; refine hD3.mono ?_; rintro e w4 ⟨rfl, k4⟩)
    go_ret
    exact ⟨rfl, Chg.alloc (Kp.trans K3 k4) _⟩
end Go.Proofs.YtghiffpolacmiabDoor
