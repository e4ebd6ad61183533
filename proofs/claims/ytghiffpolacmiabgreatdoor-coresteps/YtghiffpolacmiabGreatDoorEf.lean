import Derived.Test.YtghiffpolacmiabGreatDoorEd
import Derived.Deep.CutRange
namespace Go.Proofs.YtghiffpolacmiabGreatDoor
open Go.ChangeShapes Go.WideShapes Go.ChangeAt Go.RowKit
set_option linter.unusedVariables false

theorem ae_r (bb q : Nat) : rsc (insS ((rgE 8).st bb) (litB q 1 [943980543] (-1))).r = [.int .i64 1, .int .i64 1, .int .u32 0, .int .i64 0, .int .u32 0, .int .i64 0, .bool false, .int .u32 0, .bool false, .int .u64 0] := by kernel_rfl
theorem ae_g (bb q : Nat) : (insS ((rgE 8).st bb) (litB q 1 [943980543] (-1))).g.R 1 = 4294967295 ∧ (insS ((rgE 8).st bb) (litB q 1 [943980543] (-1))).g.pc = 12 := ⟨by kernel_rfl, by kernel_rfl⟩
theorem tmod20 (m : Int) : -19 ≤ m.tmod 20 ∧ m.tmod 20 ≤ 19 := by
  have h1 := Int.tmod_lt_of_pos m (show (0 : Int) < 20 by omega)
  have h2 := Int.lt_tmod_of_pos m (show (0 : Int) < 20 by omega)
  omega
set_option maxRecDepth 100000 in
set_option maxHeartbeats 4000000 in
theorem steps_walk (HS : Hid RefStep) (w : World) (hg : Gt w) (h2 : 2 ≤ w.heap.size) (g : Rg) (hr : InR g.R) (wv vv cv fv : Value) (ws vs cy fa : List Int) (tm ln : Int) (od : Bool) (h : Bn w wv vv cv fv ws vs cy fa) (htm : 0 ≤ tm ∧ tm < 18446744073709551616) (hws : ∀ i, 0 ≤ nxt ws i ∧ nxt ws i < 4294967296) (hvs : ∀ i, 0 ≤ nxt vs i ∧ nxt vs i < 4294967296) (m : Int) :
    Calls Tryz.prog 3 #[.agg (rgc g).toArray, .agg #[wv, vv, cv, fv, .int .u64 tm, .int .i64 ln, .bool od], .int .i64 m] w fun e w' => e = .returned (.bool true) ∧ Kp w w' := by
  have h0 := h
  obtain ⟨a0, n0, c0, rfl⟩ := h.rw.slice
  obtain ⟨a1, n1, c1, rfl⟩ := h.rv.slice
  obtain ⟨a2, n2, c2, rfl⟩ := h.rc.slice
  obtain ⟨a3, n3, c3, rfl⟩ := h.rf.slice
  obtain ⟨w1, hw1⟩ : ∃ w1, w1 = w.alloc (.cells (rgc g).toArray 25) := ⟨_, rfl⟩
  obtain ⟨w2, hw2⟩ : ∃ w2, w2 = w1.alloc (.cells #[.slice a0 n0 c0, .slice a1 n1 c1, .slice a2 n2 c2, .slice a3 n3 c3, .int .u64 tm, .int .i64 ln, .bool od] 31) := ⟨_, rfl⟩
  obtain ⟨w3, hw3⟩ : ∃ w3, w3 = w2.alloc (.cells (rgc (rgE 8)).toArray 25) := ⟨_, rfl⟩
  obtain ⟨w4, hw4⟩ : ∃ w4, w4 = w3.alloc (.cells #[.int .u32 943980543] 22) := ⟨_, rfl⟩
  obtain ⟨w5, hw5⟩ : ∃ w5, w5 = w4.alloc (.cells (bxc (litB w3.heap.size 1 [943980543] (-1))).toArray 36) := ⟨_, rfl⟩
  have k1 : Kp w w1 := by rw [hw1]; exact (Chg.refl w _).alloc _
  have k2 : Kp w1 w2 := by rw [hw2]; exact (Chg.refl w1 _).alloc _
  have k3 : Kp w2 w3 := by rw [hw3]; exact (Chg.refl w2 _).alloc _
  have k4 : Kp w3 w4 := by rw [hw4]; exact (Chg.refl w3 _).alloc _
  have k5 : Kp w4 w5 := by rw [hw5]; exact (Chg.refl w4 _).alloc _
  have z1 : w1.heap.size = w.heap.size + 1 := by rw [hw1]; simp
  have z2 : w2.heap.size = w1.heap.size + 1 := by rw [hw2]; simp
  have z3 : w3.heap.size = w2.heap.size + 1 := by rw [hw3]; simp
  have z4 : w4.heap.size = w3.heap.size + 1 := by rw [hw4]; simp
  have r1 : IsRg w1 w.heap.size g := by rw [hw1]; exact heap_alloc_new w _
  have nb : w2.heap[w1.heap.size]? = some (.cells #[.slice a0 n0 c0, .slice a1 n1 c1, .slice a2 n2 c2, .slice a3 n3 c3, .int .u64 tm, .int .i64 ln, .bool od] 31 (0, 0)) := by rw [hw2]; exact heap_alloc_new w1 _
  have m3 : w3.heap[w2.heap.size]? = some (.cells (rgc (rgE 8)).toArray 25 (0, 0)) := by rw [hw3]; exact heap_alloc_new w2 _
  have m4 : w4.heap[w3.heap.size]? = some (.cells #[.int .u32 943980543] 22 (0, 0)) := by rw [hw4]; exact heap_alloc_new w3 _
  have m5 : w5.heap[w4.heap.size]? = some (.cells (bxc (litB w3.heap.size 1 [943980543] (-1))).toArray 36 (0, 0)) := by rw [hw5]; exact heap_alloc_new w4 _
  have K5 : Kp w w5 := Kp.trans k1 (Kp.trans k2 (Kp.trans k3 (Kp.trans k4 k5)))
  have hR : Rb w5 w2.heap.size w4.heap.size (rgE 8) (litB w3.heap.size 1 [943980543] (-1)) := by
    refine ⟨Kp.heap (Kp.trans k4 k5) m3, litB_is (ws := [943980543]) m5 (Kp.heap k5 m4) (by omega) (by simp), hg.keep K5, by omega, fun k hk => ?_, fun k hk => ?_⟩
    · rcases hk with e | e
      · have := litB_own _ _ _ _ _ _ e; omega
      · have := litB_row _ _ _ _ _ e; omega
    · have := litB_own _ _ _ _ _ _ hk; omega
  have hS := step_off w5 w2.heap.size w4.heap.size (rgE 8) _ hR (litB_ok _ _ _ _ (fun i => by unfold nxt; rw [show min i ([(943980543 : Int)].length - 1) = 0 by simp]; decide)) (fun i => by show (0 : Int) ≤ 0 ∧ (0 : Int) < _; omega) (.inl rfl)
  rw [ae_r] at hS
  obtain ⟨g1, g2⟩ := ae_g w4.heap.size w3.heap.size
  have hb1 := fun w => build25_E w 8
  have hb2 := fun w => build34_2 w w3.heap.size 1 [943980543] (-1)
  have HB : Hid (Kp w w5 ∧ IsRg w5 w.heap.size g ∧ w5.heap[w.heap.size + 1]? = some (.cells #[.slice a0 n0 c0, .slice a1 n1 c1, .slice a2 n2 c2, .slice a3 n3 c3, .int .u64 tm, .int .i64 ln, .bool od] 31 (0, 0)) ∧ w.heap.size + 5 ≤ w5.heap.size ∧ w2.heap.size = w.heap.size + 2 ∧ Gt w ∧ 2 ≤ w.heap.size ∧ InR g.R ∧ (0 ≤ tm ∧ tm < 18446744073709551616) ∧ (∀ i, 0 ≤ nxt ws i ∧ nxt ws i < 4294967296) ∧ (∀ i, 0 ≤ nxt vs i ∧ nxt vs i < 4294967296)) := by
    have m1 := Kp.heap (Kp.trans k3 (Kp.trans k4 k5)) nb
    rw [z1] at m1
    exact ⟨K5, r1.kp (Kp.trans k2 (Kp.trans k3 (Kp.trans k4 k5))), m1, by have := hp_lt m5; omega, by omega, hg, h2, hr, htm, hws, hvs⟩
  have HO : Hid (∀ k, (litB w3.heap.size 1 [943980543] (-1)).own w4.heap.size k → w.heap.size + 2 ≤ k) := fun k hk => by have := litB_own _ _ _ _ _ _ hk; omega
  have hBd := fun W (k : Kp w W) => board_any W _ _ _ _ ws vs cy fa tm ln od (h0.kp k)
  clear hR k1 k2 k3 k4 k5 m3 m4 m5 nb r1 z3 h h0 hg h2 hr htm hws hvs K5
  generalize hgg : (insS ((rgE 8).st w4.heap.size) (litB w3.heap.size 1 [943980543] (-1))).g = g9 at *
  clear hgg
  generalize insB ((rgE 8).st w4.heap.size) (litB w3.heap.size 1 [943980543] (-1)) = y9 at *
  generalize (bxc (litB w3.heap.size 1 [943980543] (-1))).toArray = BX at *
  generalize litB w3.heap.size 1 [943980543] (-1) = x9 at *
  generalize (rgc (rgE 8)).toArray = RG at *
  rw [z4] at hS HO
  rw [hw4] at hw5
  rw [hw1] at hw2
  clear hw4 z4 hw1 z2 z1
  have u25 := Tryz.underlying25
  have l25 : (Tryz.prog.info? 25).map (·.size) = some (rgc g).length := by rw [size25]; rfl
  have hz := fun w => zero25 w
  go_enter Tryz.func3, Tryz.ntmps3
  go_upto_region 1 with (first | (refine wpList_box_run rfl 25 (.tmp 0) rfl (rgc g).toArray rfl ?_))
  rw [← hw2]
  clear hw2
  go_upto_region 2 with (first
    | (refine wpList_build1 rfl 25 1 _ rfl (.int .u32 8) rfl (.agg RG) (hb1 _) ?_)
    | (refine wpList_box_run rfl 25 (.tmp 19) rfl RG rfl ?_))
  rw [← hw3]
  clear hw3 hb1
  go_upto_region 3 with (first
    | (refine wpList_build2 rfl 36 0 5 (.tmp 21) _ rfl (.slice (some ⟨w3.heap.size, 0, none⟩) 1 1) (.int .i64 (-1)) rfl rfl (.agg BX) (hb2 _) ?_)
    | (refine wpList_box_run rfl 36 (.tmp 22) rfl BX rfl ?_))
  rw [← hw5]
  clear hw5 hb2
  go_upto_region 4 with (go_at_call 5; refine hS.mono ?_; rintro e w6 ⟨rfl, v6, r6, b6, k6, l6⟩)
  obtain ⟨w7, hw7⟩ : ∃ w7, w7 = w6.alloc (.cells #[.int .i64 1, .int .i64 1, .int .u32 0, .int .i64 0, .int .u32 0, .int .i64 0, .bool false, .int .u32 0, .bool false, .int .u64 0] 40) := ⟨_, rfl⟩
  have k7 : Kp w6 w7 := by rw [hw7]; exact (Chg.refl w6 _).alloc _
  have n7 : w7.heap[w6.heap.size]? = some (.cells #[.int .i64 1, .int .i64 1, .int .u32 0, .int .i64 0, .int .u32 0, .int .i64 0, .bool false, .int .u32 0, .bool false, .int .u64 0] 40 (0, 0)) := by rw [hw7]; exact heap_alloc_new w6 _
  rw [← hw7]
  clear hw7
  have r7 := r6.kp k7
  have d1 := r7.cell 1 (.int .u32 (g9.R 1)) rfl
  have d2 := r7.cell 16 (.int .u32 g9.pc) rfl
  rw [g1] at d1
  rw [g2] at d2
  have e0 : w7.cell? ⟨w6.heap.size, 0, none⟩ = some (.int .i64 1) := (cells_at n7 0).1
  have e1 : w7.cell? ⟨w6.heap.size, 1, none⟩ = some (.int .i64 1) := (cells_at n7 1).1
  have H7 : Hid (Kp w w7 ∧ IsRg w7 w.heap.size g ∧ w7.heap[w.heap.size + 1]? = some (.cells #[.slice a0 n0 c0, .slice a1 n1 c1, .slice a2 n2 c2, .slice a3 n3 c3, .int .u64 tm, .int .i64 ln, .bool od] 31 (0, 0)) ∧ w.heap.size + 5 ≤ w7.heap.size) := by
    obtain ⟨b1, b2, b3, b4, b5, _⟩ := HB.out
    have hno : ∀ k, k < w.heap.size + 2 → ¬ (k = w2.heap.size ∨ x9.own (w3.heap.size + 1) k) := fun k hk e => by
      rcases e with e | e
      · omega
      · have := HO.out k e; omega
    exact ⟨Kp.trans (Chg.trans b1 k6 (fun i hi e => hno i (by omega) e)) k7, (b2.chg k6 (hno _ (by omega))).kp k7, Kp.heap k7 (k6.heap b3 (hno _ (by omega))), by have := k6.size; have := k7.size; omega⟩
  clear r6 b6 k6 l6 k7 n7 r7 hS HO g1 g2
  go_upto_region 6 with (fail)
  clear d1 d2 e0 e1
  obtain ⟨w8, hst8, r8, k8, z8⟩ := new_rg w7 g
  have rg7 := H7.out.2.1.range
  go_upto_region 7 with (first
    | (refine wpList_load_mid rfl 25 (.tmp 3) rfl w.heap.size 0 rfl (rgc g) _ rg7 u25 rfl l25 ?_)
    | (refine wpList_store_row rfl 25 (.tmp 10) (.tmp 51) rfl w7.heap.size 0 (rgc g).toArray rfl rfl _ hst8 ?_))
  clear hst8 rg7
  obtain ⟨w9, hst9, r9, k9, z9⟩ := new_rg w8 g
  have rg8 := (H7.out.2.1.kp k8).range
  have H9 : Hid (Kp w w9 ∧ IsRg w9 w7.heap.size g ∧ IsRg w9 w8.heap.size g ∧ w9.heap[w.heap.size + 1]? = some (.cells #[.slice a0 n0 c0, .slice a1 n1 c1, .slice a2 n2 c2, .slice a3 n3 c3, .int .u64 tm, .int .i64 ln, .bool od] 31 (0, 0)) ∧ w.heap.size + 5 ≤ w7.heap.size ∧ w8.heap.size = w7.heap.size + 1 ∧ w9.heap.size = w8.heap.size + 1) := ⟨Kp.trans H7.out.1 (Kp.trans k8 k9), r8.kp k9, r9, Kp.heap (Kp.trans k8 k9) H7.out.2.2.1, H7.out.2.2.2, z8, z9⟩
  clear r8 k8 z8 r9 k9 z9 H7
  go_upto_region 8 with (first
    | (refine wpList_load_mid rfl 25 (.tmp 3) rfl w.heap.size 0 rfl (rgc g) _ rg8 u25 rfl l25 ?_)
    | (refine wpList_store_row rfl 25 (.tmp 11) (.tmp 52) rfl w8.heap.size 0 (rgc g).toArray rfl rfl _ hst9 ?_))
  clear hst9 rg8
  have rb9 := rangeOf (o := 0) H9.out.2.2.2.1 [.slice a0 n0 c0, .slice a1 n1 c1, .slice a2 n2 c2, .slice a3 n3 c3, .int .u64 tm, .int .i64 ln, .bool od] (fun j v hv => by rw [Nat.zero_add, ← Array.getElem?_toList]; exact hv)
  have u31 := Tryz.underlying31
  have l31 : (Tryz.prog.info? 31).map (·.size) = some 7 := by kernel_rfl
  have hBd9 := hBd w9 H9.out.1
  go_upto_region 9 with (first
    | (refine wpList_load_mid rfl 31 (.tmp 4) rfl (w.heap.size + 1) 0 rfl [.slice a0 n0 c0, .slice a1 n1 c1, .slice a2 n2 c2, .slice a3 n3 c3, .int .u64 tm, .int .i64 ln, .bool od] _ rb9 u31 rfl l31 ?_)
    | (go_at_call 6; refine hBd9.mono ?_; rintro e w10 ⟨p, p1, p2, p3, p4, rfl, i10, k10, l10, t10⟩))
  clear rb9 hBd9
  have rb10 := rangeOf (o := 0) (Kp.heap k10 H9.out.2.2.2.1) [.slice a0 n0 c0, .slice a1 n1 c1, .slice a2 n2 c2, .slice a3 n3 c3, .int .u64 tm, .int .i64 ln, .bool od] (fun j v hv => by rw [Nat.zero_add, ← Array.getElem?_toList]; exact hv)
  have hBd10 := hBd w10 (Kp.trans H9.out.1 k10)
  have H10 : Hid (IsB w10 p (bnB ws vs cy fa tm ln od p1 p2 p3 p4) ∧ Kp w9 w10 ∧ w9.heap.size ≤ p ∧ p < w10.heap.size ∧ ∀ k, (bnB ws vs cy fa tm ln od p1 p2 p3 p4).row k → w9.heap.size ≤ k) := ⟨i10, k10, l10, hp_lt i10.box, t10⟩
  clear i10 k10 l10 t10 hBd
  go_upto_region 10 with (first
    | (refine wpList_load_mid rfl 31 (.tmp 4) rfl (w.heap.size + 1) 0 rfl [.slice a0 n0 c0, .slice a1 n1 c1, .slice a2 n2 c2, .slice a3 n3 c3, .int .u64 tm, .int .i64 ln, .bool od] _ rb10 u31 rfl l31 ?_)
    | (go_at_call 6; refine hBd10.mono ?_; rintro e w11 ⟨q, q1, q2, q3, q4, rfl, i11, k11, l11, t11⟩))
  clear rb10 hBd10 u31 l31 hz u25
  obtain ⟨X, hX⟩ : ∃ X, X = w7.heap.size := ⟨_, rfl⟩
  obtain ⟨Y, hY⟩ : ∃ Y, Y = w8.heap.size := ⟨_, rfl⟩
  have HT : Hid (∃ g B, Tn w w11 X p Y q g B ∧ B.ok ∧ B.le 0 ∧ InR g.R) := by
    obtain ⟨b1, b2, b3, b4, b5, b6, b7, b8, b9, b10, b11⟩ := HB.out
    obtain ⟨c1, c2, c3, c4, c5, c6, c7⟩ := H9.out
    obtain ⟨d1, d2, d3, d4, d5⟩ := H10.out
    have K11 := Kp.trans d2 k11
    have lt10 := d2.size
    have G11 := b6.keep (Kp.trans c1 K11)
    have own1 : ∀ k, (bnB ws vs cy fa tm ln od p1 p2 p3 p4).own p k → k = p := fun k hk => by
      rcases hk with e | e
      · exact e
      · cases e
    have own2 : ∀ k, (bnB ws vs cy fa tm ln od q1 q2 q3 q4).own q k → k = q := fun k hk => by
      rcases hk with e | e
      · exact e
      · cases e
    have row1 : ∀ k, (bnB ws vs cy fa tm ln od p1 p2 p3 p4).row k → w9.heap.size ≤ k ∧ k < w10.heap.size := fun k hk => ⟨d5 k hk, (d1.ap k hk).2.2⟩
    refine ⟨g, bnB ws vs cy fa tm ln od p1 p2 p3 p4, ⟨p1, p2, p3, p4, .slice none 0 0, q1, q2, q3, q4, .slice none 0 0, ?_⟩, ⟨⟨Nat.zero_le _, Nat.zero_le _, Nat.zero_le _, Nat.zero_le _, Nat.zero_le _⟩, b9, b11, b10⟩, ⟨Nat.le_refl _, Nat.le_refl _, Nat.le_refl _, Nat.le_refl _, Nat.le_refl _⟩, b8⟩
    subst hX
    subst hY
    refine ⟨⟨c2.kp K11, d1.kp k11, G11, by omega, fun k hk => ?_, fun k hk => ?_⟩, ⟨c3.kp K11, i11, G11, by omega, fun k hk => ?_, fun k hk => ?_⟩, fun k hk e => ?_, fun k hk => ?_, fun k hk => ?_, Kp.trans c1 K11⟩
    · rcases hk with e | e
      · have := own1 k e; omega
      · have := row1 k e; omega
    · have := own1 k hk; omega
    · rcases hk with e | e
      · have := own2 k e; omega
      · have := t11 k e; omega
    · have := own2 k hk; omega
    · have h1 : k = w7.heap.size ∨ (w9.heap.size ≤ k ∧ k < w10.heap.size) := by
        rcases hk with e1 | e1 | e1
        · exact .inl e1
        · have := own1 k e1; exact .inr ⟨by omega, by omega⟩
        · exact .inr (row1 k e1)
      have h2 : k = w8.heap.size ∨ w10.heap.size ≤ k := by
        rcases e with e1 | e1 | e1
        · exact .inl e1
        · have := own2 k e1; exact .inr (by omega)
        · exact .inr (t11 k e1)
      omega
    · rcases hk with e | e
      · omega
      · have := own1 k e; omega
    · rcases hk with e | e
      · omega
      · have := own2 k e; omega
  rw [← hX, ← hY]
  clear hX hY i11 k11 l11 t11 H10 H9 HB l25
  have hm := tmod20 m
  go_upto_if 60 with fail
  generalize m.tmod 20 = n at *
  go_cut [14] from 61 to 62 (fun s14 wx => ∃ N : Nat, s14 = .int .i64 N ∧ N ≤ 19 ∧ wx = w11)
  case first =>
    by_cases hn : n < 0
    · go_wp2_with fail
      go_meet
      case rel => exact ⟨(-n).toNat, by rw [show (((-n).toNat : Nat) : Int) = -n by omega], by omega, rfl⟩
    · go_wp2_with fail
      go_meet
      case rel => exact ⟨n.toNat, by rw [show ((n.toNat : Nat) : Int) = n by omega], by omega, rfl⟩
  case rest =>
    obtain ⟨N, rfl, hN, rfl⟩ := hcut
    rename World => w11
    clear hm
    go_wp2_with fail
    go_loopw [15] (fun s15 wr => ∃ j : Nat, s15 = .int .i64 j ∧ j ≤ N + 1 ∧ Hid (∃ g B, Tn w wr X p Y q g B ∧ B.ok ∧ B.le (3 * j) ∧ InR g.R)) (fun s15 _ => N + 1 - (intOf s15).toNat)
    case atStart => exact ⟨0, rfl, by omega, HT⟩
    case round =>
      obtain ⟨j, rfl, hj, HI⟩ := hrel
      by_cases hlt : j ≤ N
      · have hjz : (j : Int) ≤ (N : Int) := by omega
        obtain ⟨g0, B, ⟨a, b, c, d, l, a', b', c', d', l', T⟩, hok, hle, hR⟩ := HI.out
        have hS1 := step_go wr X p g0 _ T.a (hok.as _ _ _ _ _) ((hle.more (by omega)).as _ _ _ _ _) hR
        rw [goR_as, goG_as, goB_as] at hS1
        have H1 : Hid (Tw w wr X p Y q g0 g0 (B.as a b c d l) (B.as a' b' c' d' l') ∧ B.ok ∧ B.le (3 * j) ∧ InR g0.R) := ⟨T, hok, hle, hR⟩
        obtain ⟨R, hRR⟩ : ∃ R, R = goR g0 B := ⟨_, rfl⟩
        rw [← hRR] at hS1
        have HR : Hid (R = goR g0 B) := hRR
        have hz8 := fun w => zero38 w
        clear HI HT T hok hle hR hRR
        go_upto_region 17 with (first
          | (go_at_call 5; refine hS1.mono ?_; rintro e x1 ⟨rfl, sp1⟩; obtain ⟨x2, hst2, n2, k2, z2⟩ := new_rs x1 R)
          | (refine wpList_store_row rfl 40 (.tmp 16) (.tmp 70) rfl x1.heap.size 0 (rsc R).toArray rfl rfl _ hst2 ?_))
        clear hst2 hS1
        obtain ⟨T, hok, hle, hR⟩ := H1.out
        obtain ⟨l1, T1⟩ := T.step sp1 (fun k => Iff.rfl.trans (by rw [← goB_as]; exact goB_row g0 (B.as a b c d l) k))
        have T2 := T1.keep k2
        have HL : Hid (∀ k, (k = Y ∨ (B.as a' b' c' d' l').own q k) → k < x1.heap.size) := fun k hk => by
          obtain ⟨_, _, _, C1, _⟩ := sp1
          have h1 := T.lt k (by rcases hk with e | e; exact .inl e; exact .inr (.inl e))
          have h2 := C1.size
          omega
        have hS2 := HS.out x2 Y q g0 _ T2.b (hok.as _ _ _ _ _) ((hle.more (by omega)).as _ _ _ _ _) hR
        rw [goR_as, goG_as, goB_as, ← HR.out] at hS2
        have H2 : Hid (Tw w x2 X p Y q (goG g0 B) g0 (((goB g0 B).as a b c d l).lvTo l1) (B.as a' b' c' d' l')) := T2
        clear T hok hle hR sp1 T1 T2 k2 z2
        go_upto_region 18 with (first
          | (go_at_call 7; refine hS2.mono ?_; rintro e x3 ⟨rfl, sp3⟩; obtain ⟨x4, hst4, n4, k4, z4⟩ := new_rs x3 R)
          | (refine wpList_store_row rfl 40 (.tmp 17) (.tmp 72) rfl x3.heap.size 0 (rsc R).toArray rfl rfl _ hst4 ?_))
        clear hst4 hS2
        obtain ⟨T, hok, hle, hR⟩ := H1.out
        obtain ⟨l2, T3⟩ := H2.out.swap.step sp3 (fun k => Iff.rfl.trans (by rw [← goB_as]; exact goB_row g0 (B.as a' b' c' d' l') k))
        have T4 := T3.swap.keep k4
        have hSm := same_any x4 p q _ _ T4.a.b T4.b.b rfl (by have := (goB_le g0 hle).2.2.2.2; show (goB g0 B).lg.length < 1000000; omega)
        have m4 : x4.heap[x1.heap.size]? = some (.cells (rsc R).toArray 40 (0, 0)) := by
          obtain ⟨v3, _, _, C3, _⟩ := sp3
          exact Kp.heap k4 (C3.heap n2 (fun e => Nat.lt_irrefl _ (HL.out _ e)))
        have H4 : Hid (Tw w x4 X p Y q (goG g0 B) (goG g0 B) (((goB g0 B).as a b c d l).lvTo l1) (((goB g0 B).as a' b' c' d' l').lvTo l2) ∧ (goB g0 B).ok ∧ (goB g0 B).le (3 * (j + 1)) ∧ InR (goG g0 B).R) := ⟨T4, goB_ok g0 hok hle (by omega), (goB_le g0 hle).more (by omega), goG_in g0 B hR hok⟩
        clear T hok hle hR T3 T4 sp3 k4 z4 H1 H2
        go_upto_region 19 with (go_at_call 8; refine hSm.mono ?_; rintro e x5 ⟨rfl, k5⟩)
        clear hSm
        have T5 := H4.out.1.keep k5
        have ra1 := T5.a.r.range
        have ra2 := T5.b.r.range
        have rs1 := rangeOf (o := 0) (Kp.heap k5 m4) (rsc R) (fun j v hv => by rw [Nat.zero_add, List.getElem?_toArray]; exact hv)
        have rs2 := rangeOf (o := 0) (Kp.heap k5 n4) (rsc R) (fun j v hv => by rw [Nat.zero_add, List.getElem?_toArray]; exact hv)
        have hqR := fun w => neq40 R w
        have hqG := fun w => neq25 (goG g0 B) w
        have hgR := fun w x y => eqg40 w .neq x y (rsc R).toArray (rsc R).toArray
        have hgG := fun w x y => eqg25 w .neq x y (rgc (goG g0 B)).toArray (rgc (goG g0 B)).toArray
        have u25 := Tryz.underlying25
        have u40 := Tryz.underlying40
        have l25 : (Tryz.prog.info? 25).map (·.size) = some (rgc (goG g0 B)).length := by rw [size25]; rfl
        have l40 : (Tryz.prog.info? 40).map (·.size) = some (rsc R).length := by rw [size38]; rfl
        have H5 : Hid (∃ g B, Tn w x5 X p Y q g B ∧ B.ok ∧ B.le (3 * (j + 1)) ∧ InR g.R) := ⟨goG g0 B, goB g0 B, ⟨a, b, c, d, l1, a', b', c', d', l2, T5⟩, H4.out.2⟩
        clear T5 H4 m4 n4 n2 k5 hz8 HR
        generalize rsc R = LR at *
        generalize rgc (goG g0 B) = LG at *
        go_wp2_with (first
          | (refine wpList_load_mid rfl 40 (.tmp 16) rfl x1.heap.size 0 rfl LR _ rs1 u40 rfl l40 ?_)
          | (refine wpList_load_mid rfl 40 (.tmp 17) rfl x3.heap.size 0 rfl LR _ rs2 u40 rfl l40 ?_)
          | (refine gbinop_run (by kernel_rfl) .neq 40 40 (.tmp 76) (.tmp 77) rfl (.agg LR.toArray) (.agg LR.toArray) (.bool false) rfl rfl (hgR _ _ _) (hqR _) ?_; simp only [Act.put, List.setIfInBounds_toArray, List.set_cons_zero, List.set_cons_succ])
          | (refine gload_mid (by kernel_rfl) 25 (.tmp 10) rfl X 0 rfl LG _ ra1 u25 rfl l25 ?_; simp only [Act.put, List.setIfInBounds_toArray, List.set_cons_zero, List.set_cons_succ])
          | (refine gload_mid (by kernel_rfl) 25 (.tmp 11) rfl Y 0 rfl LG _ ra2 u25 rfl l25 ?_; simp only [Act.put, List.setIfInBounds_toArray, List.set_cons_zero, List.set_cons_succ])
          | (refine gbinop_run (by kernel_rfl) .neq 25 25 (.tmp 80) (.tmp 81) rfl (.agg LG.toArray) (.agg LG.toArray) (.bool false) rfl rfl (hgG _ _ _) (hqG _) ?_; simp only [Act.put, List.setIfInBounds_toArray, List.set_cons_zero, List.set_cons_succ]))
        exact ⟨⟨j + 1, by go_num, by omega, H5⟩, by simp [intOf]; omega⟩
      · have hjz : ¬ ((j : Int) ≤ (N : Int)) := by omega
        have HK : Hid (Kp w wr) := by
          obtain ⟨g0, B, ⟨a, b, c, d, l, a', b', c', d', l', T⟩, _⟩ := HI.out
          exact T.kp
        clear HI HT
        go_wp2_with fail
        go_ret
        exact ⟨rfl, HK.out⟩
end Go.Proofs.YtghiffpolacmiabGreatDoor
