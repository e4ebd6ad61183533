import Derived.Test.YtghiffpolacmiabGreatDoorEd
namespace Go.Proofs.YtghiffpolacmiabGreatDoor
open Go.ChangeShapes Go.WideShapes Go.ChangeAt Go.RowKit
set_option linter.unusedVariables false

/-- The bus of CoreWords. -/
def litW (q1 q2 : Nat) (wd v u T : Int) : Bd := ⟨.slice (some ⟨q1, 0, none⟩) 1 1, .slice (some ⟨q2, 0, none⟩) 2 2, .slice none 0 0, .slice none 0 0, [wd], [v, u], [], [], T, -1, false, .slice none 0 0, [], 0, 0, 0, 0⟩
theorem litW_is {w : World} {bb q1 q2 : Nat} {wd v u T : Int} (hb : w.heap[bb]? = some (.cells (bxc (litW q1 q2 wd v u T)).toArray 36 (0, 0))) (h1 : w.heap[q1]? = some (.cells #[.int .u32 wd] 22 (0, 0))) (h2 : w.heap[q2]? = some (.cells #[.int .u32 v, .int .u32 u] 22 (0, 0))) (n1 : q1 ≠ bb) (n2 : q2 ≠ bb) : IsB w bb (litW q1 q2 wd v u T) := by
  refine ⟨hb, ⟨_, _, rfl, Nat.le_refl _, by show 1 < _; omega, .inr ⟨q1, 0, rfl, hp_lt h1, fun i x hx => ?_⟩⟩, ⟨_, _, rfl, Nat.le_refl _, by show 2 < _; omega, .inr ⟨q2, 0, rfl, hp_lt h2, fun i x hx => ?_⟩⟩, rw_none _ _, rw_none _ _, World.ownsRow_nil w _ _ _, fun k hk => ?_, fun e => by cases e⟩
  · rw [(cells_at h1 _).1, Nat.zero_add]
    have hx' : [wd][i]? = some x := hx
    match i, hx' with
    | 0, e => cases e; rfl
  · rw [(cells_at h2 _).1, Nat.zero_add]
    have hx' : [v, u][i]? = some x := hx
    match i, hx' with
    | 0, e => cases e; rfl
    | 1, e => cases e; rfl
  · rcases hk with e | e | e | e
    · cases e
      exact ⟨n1, fun e => (by cases e), hp_lt h1⟩
    · cases e
      exact ⟨n2, fun e => (by cases e), hp_lt h2⟩
    · cases e
    · cases e
theorem litW_own (q1 q2 : Nat) (wd v u T : Int) (bb k : Nat) (h : (litW q1 q2 wd v u T).own bb k) : k = bb := by
  rcases h with e | e
  · exact e
  · cases e
theorem litW_row (q1 q2 : Nat) (wd v u T : Int) (k : Nat) (h : (litW q1 q2 wd v u T).row k) : k = q1 ∨ k = q2 := by
  rcases h with e | e | e | e
  · cases e; exact .inl rfl
  · cases e; exact .inr rfl
  · cases e
  · cases e
theorem litW_ok (q1 q2 : Nat) (wd v u T : Int) (hw : 0 ≤ wd ∧ wd < 4294967296) (hv : 0 ≤ v ∧ v < 4294967296) (hu : 0 ≤ u ∧ u < 4294967296) (hT : 0 ≤ T ∧ T < 18446744073709551616) : (litW q1 q2 wd v u T).ok := by
  refine ⟨⟨Nat.zero_le _, Nat.zero_le _, Nat.zero_le _, Nat.zero_le _, Nat.zero_le _⟩, hT, fun i => ?_, fun i => ?_⟩
  · show 0 ≤ nxt [v, u] i ∧ nxt [v, u] i < 4294967296
    unfold nxt
    match hq : min i ([v, u].length - 1) with
    | 0 => exact hv
    | 1 => exact hu
    | k + 2 => simp at hq; omega
  · show 0 ≤ nxt [wd] i ∧ nxt [wd] i < 4294967296
    unfold nxt
    rw [show min i ([wd].length - 1) = 0 by simp]
    exact hw
theorem u64_id (a : Int) (h : 0 ≤ a ∧ a < 18446744073709551616) : IntKind.u64.wrap a = a := by
  show a % 18446744073709551616 = a
  omega
theorem build36_4 (w : World) (q1 q2 : Nat) (wd v u T : Int) : (Instr.build 36 #[(0, .slice (some ⟨q1, 0, none⟩) 1 1), (1, .slice (some ⟨q2, 0, none⟩) 2 2), (5, .int .i64 (-1)), (4, .int .u64 T)]).run Tryz.prog w = .ok (.agg (bxc (litW q1 q2 wd v u T)).toArray) w := by kernel_rfl
theorem wpList_build4b {w : World} {ops : Array Oper} {rest : List Oper} {o : Oper} {a : Act} {Q : Exit → Act → World → Prop} (hgd : o.guard = none) (t : TypeId) (x0 x1 x2 x3 : Operand) (ho : o.op = .build t #[(0, x0), (1, x1), (5, x2), (4, x3)]) (v0 v1 v2 v3 : Value) (h0 : a.eval x0 = v0) (h1 : a.eval x1 = v1) (h2 : a.eval x2 = v2) (h3 : a.eval x3 = v3) (v : Value) (hrun : (Instr.build t #[(0, v0), (1, v1), (5, v2), (4, v3)]).run Tryz.prog w = .ok v w)
    (h : wpList Tryz.prog ops Q rest (a.put o.dst v) w) : wpList Tryz.prog ops Q (o :: rest) a w :=
  wpList_build_run hgd t _ ho #[(0, v0), (1, v1), (5, v2), (4, v3)] (by simp [h0, h1, h2, h3]) v hrun h
theorem gbuild_run {P : Program} {w : World} {ops : Array Oper} {rest : List Oper} {o : Oper} {a : Act} {Q : Exit → Act → World → Prop} (hw : Region.wanted o (yielded ops a.tmps) = true) (t : TypeId) (parts : Array (Nat × Operand)) (ho : o.op = .build t parts) (vs : Array (Nat × Value)) (hvs : (parts.map fun (i, x) => (i, a.eval x)) = vs) (v : Value) (hrun : (Instr.build t vs).run P w = .ok v w)
    (h : wpList P ops Q rest (a.put o.dst v) w) : wpList P ops Q (o :: rest) a w := by
  subst hvs
  refine wpList_wanted hw fun K hK => ?_
  unfold Oper.wp
  simp only [execOp, ho]
  simp [hrun, Result.andThen]
  exact hK _ _ h
set_option maxRecDepth 100000 in
set_option maxHeartbeats 4000000 in
theorem words_walk (HS : Hid RefStep) (w : World) (hg : Gt w) (h2 : 2 ≤ w.heap.size) (g : Rg) (hr : InR g.R) (wv : Value) (ws : List Int) (hwv : Rw w .u32 wv ws) (hws : ∀ x ∈ ws, 0 ≤ x ∧ x < 4294967296) (v u : Int) (hv : 0 ≤ v ∧ v < 4294967296) (hu : 0 ≤ u ∧ u < 4294967296) :
    Calls Tryz.prog 4 #[.agg (rgc g).toArray, wv, .int .u32 v, .int .u32 u] w fun e w' => e = .returned (.bool true) ∧ Kp w w' := by
  obtain ⟨sa, sc, rfl, hsc, hsl, hrow⟩ := hwv
  obtain ⟨L, hL⟩ : ∃ L, L = ws.length := ⟨_, rfl⟩
  obtain ⟨w1, hw1⟩ : ∃ w1, w1 = w.alloc (.cells (rgc g).toArray 25) := ⟨_, rfl⟩
  have k1 : Kp w w1 := by rw [hw1]; exact (Chg.refl w _).alloc _
  have r1 : IsRg w1 w.heap.size g := by rw [hw1]; exact heap_alloc_new w _
  obtain ⟨T, hT⟩ : ∃ T : Int, T = u * v := ⟨_, rfl⟩
  have hTb : 0 ≤ T ∧ T < 18446744073709551616 := by
    have h1 := Int.mul_nonneg hu.1 hv.1
    have h2 : u * v ≤ 4294967295 * 4294967295 := Int.mul_le_mul (by omega) (by omega) hv.1 (by omega)
    omega
  have HB : Hid (Kp w w1 ∧ IsRg w1 w.heap.size g ∧ Gt w ∧ 2 ≤ w.heap.size ∧ InR g.R ∧ (∀ x ∈ ws, 0 ≤ x ∧ x < 4294967296) ∧ (0 ≤ v ∧ v < 4294967296) ∧ (0 ≤ u ∧ u < 4294967296) ∧ (0 ≤ T ∧ T < 18446744073709551616) ∧ L = ws.length ∧ (ws = [] ∨ ∃ g o, sa = some ⟨g, o, none⟩ ∧ g < w.heap.size ∧ ∀ (i : Nat) x, ws[i]? = some x → w.cell? ⟨g, o + i, none⟩ = some (.int .u32 x))) := ⟨k1, r1, hg, h2, hr, hws, hv, hu, hTb, hL, hrow⟩
  rw [← hL] at hsc hsl ⊢
  have HT : Hid (T = u * v) := hT
  have hU25 := Tryz.underlying25
  have hz := fun w => zero25 w
  have hz8 := fun w => zero38 w
  clear hg h2 hr hws k1 r1 hrow hL hT hTb
  go_enter Tryz.func4, Tryz.ntmps4
  go_upto_region 1 with (first | (refine wpList_box_run rfl 25 (.tmp 0) rfl (rgc g).toArray rfl ?_))
  rw [← hw1]
  clear hw1
  go_wp2_with fail
  go_loopw [9] (fun s9 wr => ∃ j : Nat, s9 = .int .i64 j ∧ j ≤ 200 ∧ Hid (Kp w1 wr)) (fun s9 _ => 200 - (intOf s9).toNat)
  case atStart => exact ⟨0, rfl, by omega, Kp.refl _⟩
  case round =>
    obtain ⟨j, rfl, hj, HI⟩ := hrel
    by_cases hjL : j < L
    · have hjz : (j : Int) < (L : Int) := by omega
      by_cases hj2 : j < 200
      · have hj2z : (j : Int) < 200 := by omega
        have l25 : (Tryz.prog.info? 25).map (·.size) = some (rgc g).length := by rw [size25]; rfl
        obtain ⟨x1, hst1, r1, k1, z1⟩ := new_rg wr g
        obtain ⟨x2, hst2, r2, k2, z2⟩ := new_rg x1 g
        have Z12 : Hid (x1.heap.size = wr.heap.size + 1 ∧ x2.heap.size = x1.heap.size + 1) := ⟨z1, z2⟩
        clear z1 z2
        have K1 := Kp.trans HI.out k1
        have rg0 := (HB.out.2.1.kp HI.out).range
        have rg1 := (HB.out.2.1.kp K1).range
        go_upto_region 4 with (fail)
        go_upto_region 5 with (first
          | (refine wpList_load_mid rfl 25 (.tmp 4) rfl w.heap.size 0 rfl (rgc g) _ rg0 hU25 rfl l25 ?_)
          | (refine wpList_store_row rfl 25 (.tmp 10) (.tmp 29) rfl wr.heap.size 0 (rgc g).toArray rfl rfl _ hst1 ?_))
        clear hst1 rg0
        go_upto_region 6 with (first
          | (refine wpList_load_mid rfl 25 (.tmp 4) rfl w.heap.size 0 rfl (rgc g) _ rg1 hU25 rfl l25 ?_)
          | (refine wpList_store_row rfl 25 (.tmp 11) (.tmp 30) rfl x1.heap.size 0 (rgc g).toArray rfl rfl _ hst2 ?_))
        clear hst2 rg1
        obtain ⟨z1, z2⟩ := Z12.out
        obtain ⟨b1, b2, b3, b4, b5, b6, b7, b8, b9, b10, b11⟩ := HB.out
        have hjl : j < ws.length := by omega
        have hne : ws ≠ [] := fun e => by rw [e] at hjl; simp at hjl
        obtain ⟨wd, hwd⟩ : ∃ wd, ws[j]? = some wd := ⟨_, List.getElem?_eq_getElem hjl⟩
        obtain ⟨sg, so, rfl, sgl, scell⟩ := b11.resolve_left hne
        have hwdb := b6 wd (List.mem_of_getElem? hwd)
        have K2 : Kp w x2 := Kp.trans b1 (Kp.trans K1 k2)
        have cw := Kp.cell K2 (scell j wd hwd)
        obtain ⟨x3, hx3⟩ : ∃ x3, x3 = x2.alloc (.cells #[.int .u32 wd] 22) := ⟨_, rfl⟩
        obtain ⟨x4, hx4⟩ : ∃ x4, x4 = x3.alloc (.cells #[.int .u32 v, .int .u32 u] 22) := ⟨_, rfl⟩
        obtain ⟨x5, hx5⟩ : ∃ x5, x5 = x4.alloc (.cells (bxc (litW x2.heap.size x3.heap.size wd v u T)).toArray 36) := ⟨_, rfl⟩
        have k3 : Kp x2 x3 := by rw [hx3]; exact (Chg.refl x2 _).alloc _
        have k4 : Kp x3 x4 := by rw [hx4]; exact (Chg.refl x3 _).alloc _
        have k5 : Kp x4 x5 := by rw [hx5]; exact (Chg.refl x4 _).alloc _
        have z3 : x3.heap.size = x2.heap.size + 1 := by rw [hx3]; simp
        have z4 : x4.heap.size = x3.heap.size + 1 := by rw [hx4]; simp
        have m3 : x3.heap[x2.heap.size]? = some (.cells #[.int .u32 wd] 22 (0, 0)) := by rw [hx3]; exact heap_alloc_new x2 _
        have m4 : x4.heap[x3.heap.size]? = some (.cells #[.int .u32 v, .int .u32 u] 22 (0, 0)) := by rw [hx4]; exact heap_alloc_new x3 _
        have m5 : x5.heap[x4.heap.size]? = some (.cells (bxc (litW x2.heap.size x3.heap.size wd v u T)).toArray 36 (0, 0)) := by rw [hx5]; exact heap_alloc_new x4 _
        have i5 := litW_is m5 (Kp.heap (Kp.trans k4 k5) m3) (Kp.heap k5 m4) (by omega) (by omega)
        have hC := copied_any x5 x4.heap.size _ i5 rfl rfl ⟨by show 1 * 4 ≤ _; omega, by show 2 * 4 ≤ _; omega, by show 0 * 8 ≤ _; omega, by show 0 * 8 ≤ _; omega⟩
        have hbu := fun W => build36_4 W x2.heap.size x3.heap.size wd v u T
        have ok5 := litW_ok x2.heap.size x3.heap.size wd v u T hwdb b7 b8 b9
        have lt5 := hp_lt m5
        obtain ⟨X, hX⟩ : ∃ X, X = wr.heap.size := ⟨_, rfl⟩
        obtain ⟨Y, hY⟩ : ∃ Y, Y = x1.heap.size := ⟨_, rfl⟩
        obtain ⟨p, hp⟩ : ∃ p, p = x4.heap.size := ⟨_, rfl⟩
        have H5 : Hid (Kp w x5 ∧ Kp w1 x5 ∧ IsRg x5 X g ∧ IsRg x5 Y g ∧ IsB x5 p (litW x2.heap.size x3.heap.size wd v u T) ∧ (litW x2.heap.size x3.heap.size wd v u T).ok ∧ Gt x5 ∧ 2 ≤ w.heap.size ∧ w.heap.size ≤ X ∧ Y = X + 1 ∧ x2.heap.size = X + 2 ∧ x3.heap.size = X + 3 ∧ p = X + 4 ∧ p < x5.heap.size ∧ InR g.R ∧ w1.heap.size ≤ X) := by
          have K5 : Kp x2 x5 := Kp.trans k3 (Kp.trans k4 k5)
          have hs1 := HI.out.size
          have hs0 := b1.size
          exact ⟨Kp.trans K2 K5, Kp.trans HI.out (Kp.trans k1 (Kp.trans k2 K5)), by rw [hX]; exact (r1.kp k2).kp K5, by rw [hY]; exact r2.kp K5, by rw [hp]; exact i5, ok5, b3.keep (Kp.trans K2 K5), b4, by omega, by omega, by omega, by omega, by omega, by omega, b5, by omega⟩
        rw [← hp] at hC
        have hp2 : p = x2.heap.size + 1 + 1 := by omega
        generalize hBX : (bxc (litW x2.heap.size x3.heap.size wd v u T)).toArray = BX at *
        obtain ⟨B, hB⟩ : ∃ B, B = litW x2.heap.size x3.heap.size wd v u T := ⟨_, rfl⟩
        rw [← hB] at hC H5
        have HBe : Hid (B = litW x2.heap.size x3.heap.size wd v u T) := hB
        rw [z3] at hbu
        have HTe : Hid (T = u * v) := HT
        have hTT : IntKind.u64.wrap (u * v) = T := by rw [← HT.out]; exact u64_id _ b9
        have hx5' : x5 = ((x2.alloc (.cells #[.int .u32 wd] 22)).alloc (.cells #[.int .u32 v, .int .u32 u] 22)).alloc (.cells BX 36) := by rw [hx5, hx4, hx3]
        rw [hp2] at hC
        clear hx3 hx4 hx5 k3 k4 k5 z3 z4 m3 m4 m5 i5 ok5 lt5 b1 b2 b3 b4 b5 b6 b9 b10 b11 hne hwd scell sgl hwdb r1 r2 k1 k2 z1 z2 K1 K2 hB hBX hp l25
        go_upto_region 7 with (first
          | (refine wpList_build4b rfl 36 (.tmp 35) (.tmp 38) _ (.tmp 43) rfl (.slice (some ⟨x2.heap.size, 0, none⟩) 1 1) (.slice (some ⟨x2.heap.size + 1, 0, none⟩) 2 2) (.int .i64 (-1)) (.int .u64 T) rfl rfl rfl (by simp [Act.eval]) (.agg BX) (hbu _) ?_)
          | (refine wpList_box_run rfl 36 (.tmp 44) rfl BX rfl ?_))
        rw [← hx5']
        clear hx5' cw hbu
        go_upto_region 8 with (go_at_call 9; refine hC.mono ?_; rintro e x6 ⟨q, q1, q2, q3, q4, rfl, i6, k6, l6, t6⟩)
        clear hC
        rw [← hX, ← hY, ← hp2]
        have HTw : Hid (Tw w1 x6 X p Y q g g (B.as B.wv B.vv B.cv B.fv B.lv) (B.as q1 q2 q3 q4 B.lv) ∧ B.ok ∧ B.le 0 ∧ InR g.R) := by
          obtain ⟨c1, c1', c2, c3, c4, c5, c6, c7, c8, c9, c10, c11, c12, c13, c14, c15⟩ := H5.out
          have e := HBe.out
          have own1 : ∀ k, B.own p k → k = p := fun k hk => by rw [e] at hk; exact litW_own _ _ _ _ _ _ _ _ hk
          have row1 : ∀ k, B.row k → k = x2.heap.size ∨ k = x3.heap.size := fun k hk => by rw [e] at hk; exact litW_row _ _ _ _ _ _ _ hk
          have own2 : ∀ k, (B.as q1 q2 q3 q4 B.lv).own q k → k = q := fun k hk => by
            rcases hk with e1 | e1
            · exact e1
            · have e2 : B.lv.ownBlock = some k := e1
              rw [e] at e2
              cases e2
          refine ⟨⟨⟨c2.kp k6, c4.kp k6, c6.keep k6, by omega, fun k hk => ?_, fun k hk => ?_⟩, ⟨c3.kp k6, i6, c6.keep k6, by omega, fun k hk => ?_, fun k hk => ?_⟩, fun k hk e => ?_, fun k hk => ?_, fun k hk => ?_, Kp.trans c1' k6⟩, c5, by rw [e]; exact ⟨Nat.le_refl _, Nat.le_refl _, Nat.le_refl _, Nat.le_refl _, Nat.le_refl _⟩, c14⟩
          · rcases hk with e | e
            · have := own1 k e; omega
            · have := row1 k e; omega
          · have := own1 k hk; omega
          · rcases hk with e | e
            · have := own2 k e; omega
            · have := t6 k e; omega
          · have := own2 k hk; omega
          · have h1 : k = X ∨ k = p ∨ k = x2.heap.size ∨ k = x3.heap.size := by
              rcases hk with e1 | e1 | e1
              · exact .inl e1
              · exact .inr (.inl (own1 k e1))
              · exact .inr (.inr (row1 k e1))
            have h2 : k = Y ∨ x5.heap.size ≤ k := by
              rcases e with e1 | e1 | e1
              · exact .inl e1
              · have := own2 k e1; exact .inr (by omega)
              · exact .inr (t6 k e1)
            omega
          · rcases hk with e | e
            · omega
            · have := own1 k e; omega
          · rcases hk with e | e
            · omega
            · have := own2 k e; omega
        clear H5 i6 k6 l6 t6 hX hY hp2 HBe
        obtain ⟨TW, hok, hle, hR⟩ := HTw.out
        have hS1 := step_go x6 X p g _ TW.a (hok.as _ _ _ _ _) ((hle.more (by omega)).as _ _ _ _ _) hR
        rw [goR_as, goG_as, goB_as] at hS1
        obtain ⟨R, hRR⟩ : ∃ R, R = goR g B := ⟨_, rfl⟩
        rw [← hRR] at hS1
        have HR : Hid (R = goR g B) := hRR
        clear TW hok hle hR hRR
        go_upto_region 9 with (first
          | (go_at_call 5; refine hS1.mono ?_; rintro e y1 ⟨rfl, sp1⟩; obtain ⟨y2, hst2, n2, k2, z2⟩ := new_rs y1 R)
          | (refine wpList_store_row rfl 40 (.tmp 14) (.tmp 50) rfl y1.heap.size 0 (rsc R).toArray rfl rfl _ hst2 ?_))
        clear hst2 hS1
        obtain ⟨TW, hok, hle, hR⟩ := HTw.out
        obtain ⟨l1, T1⟩ := TW.step sp1 (fun k => Iff.rfl.trans (by rw [← goB_as]; exact goB_row g (B.as B.wv B.vv B.cv B.fv B.lv) k))
        have T2 := T1.keep k2
        have HL : Hid (∀ k, (k = Y ∨ (B.as q1 q2 q3 q4 B.lv).own q k) → k < y1.heap.size) := fun k hk => by
          obtain ⟨_, _, _, C1, _⟩ := sp1
          have h1 := TW.lt k (by rcases hk with e | e; exact .inl e; exact .inr (.inl e))
          have h2 := C1.size
          omega
        have hS2 := HS.out y2 Y q g _ T2.b (hok.as _ _ _ _ _) ((hle.more (by omega)).as _ _ _ _ _) hR
        rw [goR_as, goG_as, goB_as, ← HR.out] at hS2
        have H2 : Hid (Tw w1 y2 X p Y q (goG g B) g (((goB g B).as B.wv B.vv B.cv B.fv B.lv).lvTo l1) (B.as q1 q2 q3 q4 B.lv)) := T2
        clear TW hok hle hR sp1 T1 T2 k2 z2
        go_upto_region 10 with (first
          | (go_at_call 7; refine hS2.mono ?_; rintro e y3 ⟨rfl, sp3⟩; obtain ⟨y4, hst4, n4, k4, z4⟩ := new_rs y3 R)
          | (refine wpList_store_row rfl 40 (.tmp 15) (.tmp 52) rfl y3.heap.size 0 (rsc R).toArray rfl rfl _ hst4 ?_))
        clear hst4 hS2
        obtain ⟨TW, hok, hle, hR⟩ := HTw.out
        obtain ⟨l2, T3⟩ := H2.out.swap.step sp3 (fun k => Iff.rfl.trans (by rw [← goB_as]; exact goB_row g (B.as q1 q2 q3 q4 B.lv) k))
        have T4 := T3.swap.keep k4
        have hSm := same_any y4 p q _ _ T4.a.b T4.b.b rfl (by have := (goB_le g hle).2.2.2.2; show (goB g B).lg.length < 1000000; omega)
        have m4 : y4.heap[y1.heap.size]? = some (.cells (rsc R).toArray 40 (0, 0)) := by
          obtain ⟨v3, _, _, C3, _⟩ := sp3
          exact Kp.heap k4 (C3.heap n2 (fun e => Nat.lt_irrefl _ (HL.out _ e)))
        have H4 : Hid (Tw w1 y4 X p Y q (goG g B) (goG g B) (((goB g B).as B.wv B.vv B.cv B.fv B.lv).lvTo l1) (((goB g B).as q1 q2 q3 q4 B.lv).lvTo l2)) := T4
        clear TW hok hle hR T3 T4 sp3 k4 z4 H2 HTw HL
        go_upto_region 11 with (go_at_call 8; refine hSm.mono ?_; rintro e y5 ⟨rfl, k5⟩)
        clear hSm
        have T5 := H4.out.keep k5
        have ra1 := T5.a.r.range
        have ra2 := T5.b.r.range
        have rs1 := rangeOf (o := 0) (Kp.heap k5 m4) (rsc R) (fun j v hv => by rw [Nat.zero_add, List.getElem?_toArray]; exact hv)
        have rs2 := rangeOf (o := 0) (Kp.heap k5 n4) (rsc R) (fun j v hv => by rw [Nat.zero_add, List.getElem?_toArray]; exact hv)
        have hqR := fun w => neq40 R w
        have hqG := fun w => neq25 (goG g B) w
        have hgR := fun w x y => eqg40 w .neq x y (rsc R).toArray (rsc R).toArray
        have hgG := fun w x y => eqg25 w .neq x y (rgc (goG g B)).toArray (rgc (goG g B)).toArray
        have hU40 := Tryz.underlying40
        have l25 : (Tryz.prog.info? 25).map (·.size) = some (rgc (goG g B)).length := by rw [size25]; rfl
        have l40 : (Tryz.prog.info? 40).map (·.size) = some (rsc R).length := by rw [size38]; rfl
        have HK : Hid (Kp w1 y5) := T5.kp
        clear T5 H4 m4 n4 n2 k5 HR
        generalize rsc R = LR at *
        generalize rgc (goG g B) = LG at *
        go_wp2_with (first
          | (refine wpList_load_mid rfl 40 (.tmp 14) rfl y1.heap.size 0 rfl LR _ rs1 hU40 rfl l40 ?_)
          | (refine wpList_load_mid rfl 40 (.tmp 15) rfl y3.heap.size 0 rfl LR _ rs2 hU40 rfl l40 ?_)
          | (refine gbinop_run (by kernel_rfl) .neq 40 40 (.tmp 56) (.tmp 57) rfl (.agg LR.toArray) (.agg LR.toArray) (.bool false) rfl rfl (hgR _ _ _) (hqR _) ?_; simp only [Act.put, List.setIfInBounds_toArray, List.set_cons_zero, List.set_cons_succ])
          | (refine gload_mid (by kernel_rfl) 25 (.tmp 10) rfl X 0 rfl LG _ ra1 hU25 rfl l25 ?_; simp only [Act.put, List.setIfInBounds_toArray, List.set_cons_zero, List.set_cons_succ])
          | (refine gload_mid (by kernel_rfl) 25 (.tmp 11) rfl Y 0 rfl LG _ ra2 hU25 rfl l25 ?_; simp only [Act.put, List.setIfInBounds_toArray, List.set_cons_zero, List.set_cons_succ])
          | (refine gbinop_run (by kernel_rfl) .neq 25 25 (.tmp 60) (.tmp 61) rfl (.agg LG.toArray) (.agg LG.toArray) (.bool false) rfl rfl (hgG _ _ _) (hqG _) ?_; simp only [Act.put, List.setIfInBounds_toArray, List.set_cons_zero, List.set_cons_succ]))
        exact ⟨⟨j + 1, by go_num, by omega, HK⟩, by simp [intOf]; omega⟩
      · have hj2z : ¬ ((j : Int) < 200) := by omega
        have HK : Hid (Kp w wr) := Kp.trans HB.out.1 HI.out
        have hN := fun W => step_nil W
        have hR4 := fun W => reset_any W 4
        have hU40 := Tryz.underlying40
        have l40 : (Tryz.prog.info? 40).map (·.size) = some (rsc Rs.zero).length := by rw [size38]; rfl
        have hbu := fun w => build40_0 w
        have hqz := fun w => eql40 w
        have hgz := fun w x y => eqg40 w .eql x y (rsc Rs.zero).toArray (rsc Rs.zero).toArray
        clear HI HB HS HT
        go_upto_region 14 with (first
          | (go_at_call 5; refine (hN _).mono ?_; rintro e y1 ⟨rfl, k1⟩; obtain ⟨y2, hst2, n2, k2, z2⟩ := new_rs y1 Rs.zero)
          | (refine wpList_store_row rfl 40 (.tmp 17) (.tmp 68) rfl y1.heap.size 0 (rsc Rs.zero).toArray rfl rfl _ hst2 ?_))
        clear hst2 z2 hN
        go_upto_region 15 with (first
          | (go_at_call 10; refine (hR4 _).mono ?_; rintro e y3 ⟨rfl, k3⟩; obtain ⟨y4, hst4, r4, k4, z4⟩ := new_rg y3 (rgE 4))
          | (refine wpList_store_row rfl 25 (.tmp 18) (.tmp 69) rfl y3.heap.size 0 (rgc (rgE 4)).toArray rfl rfl _ hst4 ?_))
        have rs2 := rangeOf (o := 0) (Kp.heap (Kp.trans k3 k4) n2) (rsc Rs.zero) (fun j v hv => by rw [Nat.zero_add, List.getElem?_toArray]; exact hv)
        have c4 := r4.cell 16 (.int .u32 4) rfl
        have HE : Hid (Kp w y4) := Kp.trans HK.out (Kp.trans k1 (Kp.trans k2 (Kp.trans k3 k4)))
        clear hst4 z4 hR4 n2 r4 k1 k2 k3 k4 HK hz hz8
        generalize rsc Rs.zero = LZ at *
        go_wp2_with (first
          | (refine wpList_load_mid rfl 40 (.tmp 17) rfl y1.heap.size 0 rfl LZ _ rs2 hU40 rfl l40 ?_; simp only [Act.put, List.setIfInBounds_toArray, List.set_cons_zero, List.set_cons_succ])
          | (refine wpList_build_run rfl 40 _ rfl #[] (by simp) (.agg LZ.toArray) (hbu _) ?_; simp only [Act.put, List.setIfInBounds_toArray, List.set_cons_zero, List.set_cons_succ])
          | (refine gbinop_run (by kernel_rfl) .eql 40 40 (.tmp 70) (.tmp 71) rfl (.agg LZ.toArray) (.agg LZ.toArray) (.bool true) rfl rfl (hgz _ _ _) (hqz _) ?_; simp only [Act.put, List.setIfInBounds_toArray, List.set_cons_zero, List.set_cons_succ]))
        go_ret
        exact ⟨rfl, HE.out⟩
    · have hjz : ¬ ((j : Int) < (L : Int)) := by omega
      have HK : Hid (Kp w wr) := Kp.trans HB.out.1 HI.out
      have hN := fun W => step_nil W
      have hR4 := fun W => reset_any W 4
      have hU40 := Tryz.underlying40
      have l40 : (Tryz.prog.info? 40).map (·.size) = some (rsc Rs.zero).length := by rw [size38]; rfl
      have hbu := fun w => build40_0 w
      have hqz := fun w => eql40 w
      have hgz := fun w x y => eqg40 w .eql x y (rsc Rs.zero).toArray (rsc Rs.zero).toArray
      clear HI HB HS HT
      go_upto_region 14 with (first
        | (go_at_call 5; refine (hN _).mono ?_; rintro e y1 ⟨rfl, k1⟩; obtain ⟨y2, hst2, n2, k2, z2⟩ := new_rs y1 Rs.zero)
        | (refine wpList_store_row rfl 40 (.tmp 17) (.tmp 68) rfl y1.heap.size 0 (rsc Rs.zero).toArray rfl rfl _ hst2 ?_))
      clear hst2 z2 hN
      go_upto_region 15 with (first
        | (go_at_call 10; refine (hR4 _).mono ?_; rintro e y3 ⟨rfl, k3⟩; obtain ⟨y4, hst4, r4, k4, z4⟩ := new_rg y3 (rgE 4))
        | (refine wpList_store_row rfl 25 (.tmp 18) (.tmp 69) rfl y3.heap.size 0 (rgc (rgE 4)).toArray rfl rfl _ hst4 ?_))
      have rs2 := rangeOf (o := 0) (Kp.heap (Kp.trans k3 k4) n2) (rsc Rs.zero) (fun j v hv => by rw [Nat.zero_add, List.getElem?_toArray]; exact hv)
      have c4 := r4.cell 16 (.int .u32 4) rfl
      have HE : Hid (Kp w y4) := Kp.trans HK.out (Kp.trans k1 (Kp.trans k2 (Kp.trans k3 k4)))
      clear hst4 z4 hR4 n2 r4 k1 k2 k3 k4 HK hz hz8
      generalize rsc Rs.zero = LZ at *
      go_wp2_with (first
        | (refine wpList_load_mid rfl 40 (.tmp 17) rfl y1.heap.size 0 rfl LZ _ rs2 hU40 rfl l40 ?_; simp only [Act.put, List.setIfInBounds_toArray, List.set_cons_zero, List.set_cons_succ])
        | (refine wpList_build_run rfl 40 _ rfl #[] (by simp) (.agg LZ.toArray) (hbu _) ?_; simp only [Act.put, List.setIfInBounds_toArray, List.set_cons_zero, List.set_cons_succ])
        | (refine gbinop_run (by kernel_rfl) .eql 40 40 (.tmp 70) (.tmp 71) rfl (.agg LZ.toArray) (.agg LZ.toArray) (.bool true) rfl rfl (hgz _ _ _) (hqz _) ?_; simp only [Act.put, List.setIfInBounds_toArray, List.set_cons_zero, List.set_cons_succ]))
      go_ret
      exact ⟨rfl, HE.out⟩
end Go.Proofs.YtghiffpolacmiabGreatDoor
