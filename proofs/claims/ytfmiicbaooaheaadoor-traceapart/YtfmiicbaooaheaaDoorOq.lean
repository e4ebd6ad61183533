import Derived.Test.YtfmiicbaooaheaaDoorOp
namespace Go.Proofs.YtfmiicbaooaheaaDoor
open Go.ChangeShapes Go.WideShapes Go.ChangeAt Go.RowKit Go.Shelf
set_option linter.unusedVariables false
set_option maxHeartbeats 16000000 in
set_option maxRecDepth 100000 in
theorem apart_walk (w : World) (GT : Gt w) (cell : Int) (hcell : i64ok cell) (a1 a2 a3 : Option Addr) (n1 c1 n2 c2 n3 c3 : Nat) (f1 f2 : Nat → Rw) (f3 : Nat → Int) (h1 : RawI w a1 n1 f1) (h2 : RawI w a2 n2 f2) (h3 : NuI w a3 n3 f3) (m1 : n1 ≤ 140737488355328) (m2 : n2 ≤ 140737488355328) (m3 : n3 ≤ 140737488355328) :
    Calls Tryd.prog 3 #[.int .i64 cell, .slice a1 n1 c1, .slice a2 n2 c2, .slice a3 n3 c3] w fun e w' => e = .returned (.bool true) ∧ Kp w w' := by
  have A1 : ∀ w, Calls Tryd.prog 4 #[.int .i64 cell, .int .i64 8] w fun r w' => r = .returned (.int .i64 (pickN cell 8 : Nat)) ∧ w' = w := fun w => pick_any w cell 8 (by omega) (by omega) hcell.1 hcell.2
  have hcl := pickN_lt cell 8 (by omega)
  generalize pickN cell 8 = cN at A1 hcl
  have A2 := all_any w a1 n1 c1 f1 h1 m1
  have H0 : Hid (Gt w ∧ RawI w a2 n2 f2 ∧ NuI w a3 n3 f3) := ⟨GT, h2, h3⟩
  clear GT h1 h2 h3 hcell
  go_enter Tryd.func3, Tryd.ntmps3
  go_wp2_with fail
  go_at_call 4
  refine (A1 w).mono ?_
  rintro e w1 ⟨rfl, hw1⟩
  rw [hw1]
  clear hw1 A1
  go_wp2_with fail
  go_at_call 5
  refine A2.mono ?_
  rintro e w2 ⟨vA, LA, rfl, hoA, hokA, hlA, k2, hnA⟩
  obtain ⟨aA, cA, hvA, _, _⟩ := hoA.sh
  obtain ⟨nA, hnA2⟩ : ∃ nA, nA = LA.length := ⟨_, rfl⟩
  rw [← hnA2] at hvA
  subst hvA
  have H1 : Hid (OO w2 (.slice aA nA cA) LA ∧ (∀ x ∈ LA, x.ok) ∧ nA = LA.length ∧ Kp w w2 ∧ Nw w (.slice aA nA cA)) := ⟨hoA, hokA, hnA2, k2, hnA⟩
  have hl200 : nA ≤ 200 := by omega
  clear A2 hoA hokA hlA k2 hnA hnA2
  go_wp2_with fail
  have hcb : (1 : Int) + (cN : Nat) ≤ 8 := by omega
  go_loopw [11] (fun s11 wr => ∃ i : Nat, s11 = .int .i64 (i : Nat) ∧ i ≤ nA ∧ Hid (OO wr (.slice aA nA cA) (mixc (1 + (cN : Nat)) LA i) ∧ Kp w wr)) (fun s11 _ => nA - (intOf s11).toNat)
  case atStart => exact ⟨0, rfl, by omega, ⟨by rw [mixc_zero]; exact H1.out.1, H1.out.2.2.2.1⟩⟩
  case round =>
    obtain ⟨i, rfl, hi, HI⟩ := hrel
    by_cases hlt : i < nA
    · have hz : (i : Int) < nA := by omega
      obtain ⟨ho, kw⟩ := HI.out
      have hmL : (mixc (1 + (cN : Nat)) LA i).length = nA := by rw [mixc_len]; exact H1.out.2.2.1.symm
      have hiL : i < LA.length := by have := H1.out.2.2.1; omega
      obtain ⟨g, cap, e⟩ := OO.some ho (by omega)
      rw [hmL] at e
      simp only [Value.slice.injEq] at e
      obtain ⟨rfl, _, _⟩ := e
      obtain ⟨oc, cc⟩ : ∃ oc, wr.cell? ⟨g, i * 6 + 1, none⟩ = some (.int .i64 oc) := ⟨_, (ho.cells i (by omega)).2.1⟩
      have ho3 : OO wr (.slice (some ⟨g, 0, none⟩) (mixc (1 + (cN : Nat)) LA i).length cA) (mixc (1 + (cN : Nat)) LA i) := by rw [hmL]; exact ho
      have ff := ho3.frozenAt (i * 6 + 1)
      have hset := OO.setc ho hmL.symm (1 + (cN : Nat)) i (by omega)
      rw [mixc_at _ LA i hiL _, mixc_set _ LA i hiL] at hset
      have hgw : w.heap.size ≤ g := H1.out.2.2.2.2 g (by simp [Value.ownBlock])
      have HN : Hid (OO (wr.setCell ⟨g, i * 6 + 1, none⟩ (.int .i64 (1 + (cN : Nat)))) (.slice (some ⟨g, 0, none⟩) nA cA) (mixc (1 + (cN : Nat)) LA (i + 1)) ∧ Kp w (wr.setCell ⟨g, i * 6 + 1, none⟩ (.int .i64 (1 + (cN : Nat))))) := ⟨hset, Chg.setCell kw (.inr hgw) _⟩
      clear ho ho3 kw hset hmL HI
      go_wp2
      go_roundw
      case rel => exact ⟨i + 1, by go_num, by omega, HN⟩
      case measure => simp [intOf]; omega
    · have hz : ¬ (i : Int) < nA := by omega
      obtain ⟨ho, kw⟩ := HI.out
      have e1 : i = LA.length := by have := H1.out.2.2.1; omega
      rw [e1, mixc_all] at ho
      obtain ⟨LA', hLA'⟩ : ∃ LA', LA' = LA.map (setc (1 + (cN : Nat))) := ⟨_, rfl⟩
      rw [← hLA'] at ho
      have A3 := all_any wr a2 n2 c2 f2 (H0.out.2.1.kp kw) m2
      have H2 : Hid (OO wr (.slice aA nA cA) LA' ∧ Kp w wr ∧ Nw w (.slice aA nA cA) ∧ nA = LA'.length ∧ (∀ x ∈ LA', x.ok ∧ x.c = 1 + (cN : Nat)) ∧ own (1 + (cN : Nat)) LA' = LA') := by
        refine ⟨ho, kw, H1.out.2.2.2.2, by rw [hLA', List.length_map]; exact H1.out.2.2.1, ?_, by rw [hLA']; exact own_map _ _⟩
        intro x hx
        rw [hLA'] at hx
        obtain ⟨y, hy, rfl⟩ := List.mem_map.1 hx
        exact ⟨setc_ok (by omega) (H1.out.2.1 y hy), rfl⟩
      clear ho kw e1 hLA' HI H1
      go_wp2_with fail
      go_at_call 5
      refine A3.mono ?_
      rintro e w5 ⟨vX, LX, rfl, hoX, hokX, hlX, k5, hnX⟩
      obtain ⟨aX, cX, hvX, _, _⟩ := hoX.sh
      obtain ⟨nX, hnX2⟩ : ∃ nX, nX = LX.length := ⟨_, rfl⟩
      rw [← hnX2] at hvX
      subst hvX
      have hx200 : nX ≤ 200 := by omega
      have H5 : Hid (Kp w w5 ∧ OO w5 (.slice aA nA cA) LA' ∧ nA = LA'.length ∧ (∀ x ∈ LA', x.ok ∧ x.c = 1 + (cN : Nat)) ∧ own (1 + (cN : Nat)) LA' = LA' ∧ OO w5 (.slice aX nX cX) LX ∧ nX = LX.length ∧ (∀ x ∈ LX, x.ok) ∧ NuI w5 a3 n3 f3 ∧ Gt w5) := by
        obtain ⟨q1, q2, q3, q4, q5, q6⟩ := H2.out
        exact ⟨q2.trans k5, q1.kp k5, q4, q5, q6, hoX, hnX2, hokX, H0.out.2.2.kp (q2.trans k5), H0.out.1.keep (q2.trans k5)⟩
      clear A3 hoX hokX hlX k5 hnX hnX2 H2 H0 hlt hi
      go_wp2_with fail
      go_loopw [13, 14, 15] (fun s13 s14 s15 wr => ∃ (i n : Nat) (av : Option Addr) (nv cv : Nat), s13 = .slice av nv cv ∧ s14 = .int .i64 (n : Nat) ∧ s15 = .int .i64 (i : Nat) ∧ i ≤ nA + 1 ∧ n ≤ nX ∧ Hid (ApI w5 wr (1 + (cN : Nat)) LA' av nv cv i n)) (fun s13 s14 s15 _ => nA + 1 - (intOf s15).toNat)
      case atStart => exact ⟨0, 0, none, 0, 0, rfl, rfl, rfl, by omega, by omega, ⟨Kp.refl _, fun k hk => by simp [Value.ownBlock] at hk, [], OO.nil _, by simp, by simp [own], by simp⟩⟩
      case round =>
        obtain ⟨i, n, av, nv, cv, rfl, rfl, rfl, hi, hnx, HI⟩ := hrel
        rename World => WR1
        by_cases hile : i ≤ nA
        · have hz : (i : Int) ≤ nA := by omega
          obtain ⟨WR, hWR⟩ : ∃ WR, WR = WR1 := ⟨_, rfl⟩
          go_wp2_with fail
          go_loopw [13, 14, 16] (fun s13 s14 s16 wr => ∃ (n k : Nat) (av : Option Addr) (nv cv : Nat), s13 = .slice av nv cv ∧ s14 = .int .i64 (n : Nat) ∧ s16 = .int .i64 (k : Nat) ∧ n ≤ nX ∧ k ≤ n ∧ Hid (ApI w5 wr (1 + (cN : Nat)) LA' av nv cv i n)) (fun s13 s14 s16 _ => nX - (intOf s14).toNat)
          case atStart => exact ⟨n, 0, av, nv, cv, rfl, rfl, rfl, hnx, by omega, HI⟩
          case round =>
            clear HI
            obtain ⟨n, k, av, nv, cv, rfl, rfl, rfl, hnx, hkn, HI⟩ := hrel
            by_cases y1 : n < nX
            · have z1 : (n : Int) < nX := by omega
              by_cases y2 : i < n3
              · have z2 : (i : Int) < n3 := by omega
                obtain ⟨b3, o3, rfl, _, hc3⟩ : ∃ b o, a3 = some ⟨b, o, none⟩ ∧ b < wr.heap.size ∧ ∀ i, i < n3 → wr.cell? ⟨b, o + i, none⟩ = some (.int .i64 (f3 i)) := by
                  rcases (H5.out.2.2.2.2.2.2.2.2.1.kp HI.out.kp).rd with e | e
                  · omega
                  · exact e
                have s3 := hc3 i y2
                have r3 := H5.out.2.2.2.2.2.2.2.2.1.ok i y2
                have P4 : ∀ w, Calls Tryd.prog 4 #[.int .i64 (f3 i), .int .i64 4] w fun r w' => r = .returned (.int .i64 (pickN (f3 i) 4 : Nat)) ∧ w' = w := fun w => pick_any w (f3 i) 4 (by omega) (by omega) r3.1 r3.2
                generalize pickN (f3 i) 4 = pk at P4
                generalize f3 i = fi at *
                clear hc3 r3
                by_cases y3 : k < pk
                · have z3 : (k : Int) < pk := by omega
                  have hnL : n < LX.length := by have := H5.out.2.2.2.2.2.2.1; omega
                  have hoX := H5.out.2.2.2.2.2.1.kp HI.out.kp
                  obtain ⟨gX, capX, eX⟩ := OO.some hoX (by omega)
                  simp only [Value.slice.injEq] at eX
                  obtain ⟨rfl, -, -⟩ := eX
                  obtain ⟨x0, x1, x2, x3, x4, x5⟩ := hoX.cells n hnL
                  have xok := H5.out.2.2.2.2.2.2.2.1 LX[n] (List.getElem_mem hnL)
                  have P7 : ∀ w, Calls Tryd.prog 4 #[.int .i64 LX[n].c, .int .i64 7] w fun r w' => r = .returned (.int .i64 (pickN LX[n].c 7 : Nat)) ∧ w' = w := fun w => pick_any w LX[n].c 7 (by omega) (by omega) xok.c.1 xok.c.2
                  have hq7 := pickN_lt LX[n].c 7 (by omega)
                  generalize pickN LX[n].c 7 = q7 at P7 hq7
                  generalize LX[n] = xx at *
                  clear hoX
                  obtain ⟨xt, xc, xk, xp, xa, xb⟩ := xx
                  simp only at x0 x1 x2 x3 x4 x5 P7
                  go_wp2_with fail
                  go_at_call 4
                  refine (P4 wr).mono ?_
                  rintro e wq ⟨rfl, hwq⟩
                  rw [hwq]
                  clear hwq P4 wq
                  obtain ⟨wn, hwn⟩ : ∃ wn, wn = wr.alloc (.cells #[.int .u64 xt, .int .i64 xc, .int .i64 xk, .int .u32 xp, .int .u32 xa, .int .u32 xb] 31) := ⟨_, rfl⟩
                  have gn : wn.heap[wr.heap.size]? = some (.cells #[.int .u64 xt, .int .i64 xc, .int .i64 xk, .int .u32 xp, .int .u32 xa, .int .u32 xb] 31 (0, 0)) := by rw [hwn]; exact heap_alloc_new _ _
                  obtain ⟨t1, ft1⟩ := cells_at gn 1
                  simp only [List.getElem?_toArray, List.getElem?_cons_zero, List.getElem?_cons_succ] at t1
                  have P7n := P7 wn
                  rw [hwn] at t1 ft1 P7n
                  go_wp2_with fail
                  go_at_call 4
                  refine P7n.mono ?_
                  rintro e wq ⟨rfl, hwq⟩
                  rw [hwq]
                  clear hwq P7 P7n wq
                  have P8 : Hid (∃ LB, OO wr (.slice av nv cv) LB ∧ (∀ x ∈ LB, x.ok) ∧ own (1 + (cN : Nat)) LB = LA'.take i ∧ LB.length ≤ i + n) := HI.out.ex
                  obtain ⟨LB, hoB, hokB, hownB, hlenB⟩ := P8.out
                  have hc' := other_cell hcl hq7
                  have cok : -9223372036854775808 ≤ (1 + (1 + ((cN : Nat) : Int) + ((q7 : Nat) : Int)) % 8) ∧ (1 + (1 + ((cN : Nat) : Int) + ((q7 : Nat) : Int)) % 8) ≤ 9223372036854775807 := by omega
                  have k8 := Kp.al wr (.cells #[.int .u64 xt, .int .i64 (1 + (1 + ((cN : Nat) : Int) + ((q7 : Nat) : Int)) % 8), .int .i64 xk, .int .u32 xp, .int .u32 xa, .int .u32 xb] 31)
                  have s8 : (wr.alloc (.cells #[.int .u64 xt, .int .i64 (1 + (1 + ((cN : Nat) : Int) + ((q7 : Nat) : Int)) % 8), .int .i64 xk, .int .u32 xp, .int .u32 xa, .int .u32 xb] 31)).heap.size = wr.heap.size + 1 := by simp
                  obtain ⟨v', w', hrun, ho', hcg, hl⟩ := run_appO1 (wr.alloc (.cells #[.int .u64 xt, .int .i64 (1 + (1 + ((cN : Nat) : Int) + ((q7 : Nat) : Int)) % 8), .int .i64 xk, .int .u32 xp, .int .u32 xa, .int .u32 xb] 31)) (.slice av nv cv) LB (hoB.kp k8) ⟨xt, 1 + (1 + ((cN : Nat) : Int) + ((q7 : Nat) : Int)) % 8, xk, xp, xa, xb⟩ (by omega) 25
                  rw [s8] at hrun
                  obtain ⟨av', cv', hv', _, _⟩ := ho'.sh
                  obtain ⟨nv', hnv'⟩ : ∃ nv', nv' = (LB ++ [(⟨xt, 1 + (1 + ((cN : Nat) : Int) + ((q7 : Nat) : Int)) % 8, xk, xp, xa, xb⟩ : Ob)]).length := ⟨_, rfl⟩
                  rw [← hnv'] at hv'
                  subst hv'
                  have HN : Hid (ApI w5 w' (1 + (cN : Nat)) LA' av' nv' cv' i (n + 1)) := ApI.add HI.out.kp HI.out.nw hokB hownB hlenB (⟨xt, 1 + (1 + ((cN : Nat) : Int) + ((q7 : Nat) : Int)) % 8, xk, xp, xa, xb⟩ : Ob) ⟨xok.t, cok, xok.k, xok.p, xok.a, xok.b⟩ hc' k8 ho' hcg hl
                  clear hoB hokB hownB hlenB ho' hcg hl hnv' P8 k8 s8 hc' cok xok HI gn t1 ft1 hwn
                  go_wp2_with (at_builtin; refine wpList_append_run _ rfl (.tmp 80) (.tmp 82) 25 25 rfl _ _ _ w' rfl rfl hrun ?_)
                  go_roundw
                  case rel => exact ⟨n + 1, k + 1, av', nv', cv', rfl, by go_num, by go_num, by omega, by omega, HN⟩
                  case measure => simp [intOf]; omega
                · have z3 : ¬ (k : Int) < pk := by omega
                  by_cases yA : i < nA
                  · have zA : (i : Int) < nA := by omega
                    have hiL : i < LA'.length := by have := H5.out.2.2.1; omega
                    have hoA := H5.out.2.1.kp HI.out.kp
                    obtain ⟨gA, capA, eA⟩ := OO.some hoA (by omega)
                    simp only [Value.slice.injEq] at eA
                    obtain ⟨rfl, -, -⟩ := eA
                    obtain ⟨x0, x1, x2, x3, x4, x5⟩ := hoA.cells i hiL
                    have xok := H5.out.2.2.2.1 LA'[i] (List.getElem_mem hiL)
                    obtain ⟨LB, hoB, hokB, hownB, hlenB⟩ := HI.out.ex
                    obtain ⟨v', w', hrun, ho', hcg, hl⟩ := run_appO1 wr (.slice av nv cv) LB hoB LA'[i] (by omega) 25
                    obtain ⟨av', cv', hv', _, _⟩ := ho'.sh
                    obtain ⟨nv', hnv'⟩ : ∃ nv', nv' = (LB ++ [LA'[i]]).length := ⟨_, rfl⟩
                    rw [← hnv'] at hv'
                    subst hv'
                    have HN : Hid (ApI w5 w' (1 + (cN : Nat)) LA' av' nv' cv' (i + 1) n) := ApI.own HI.out.kp HI.out.nw hokB hownB hlenB hiL LA'[i] rfl xok.1 xok.2 (Kp.refl wr) ho' hcg hl
                    clear hoB hokB hownB hlenB ho' hcg hl hnv' xok HI hoA
                    generalize LA'[i] = xx at *
                    obtain ⟨xt, xc, xk, xp, xa, xb⟩ := xx
                    simp only at x0 x1 x2 x3 x4 x5 hrun
                    go_wp2_with fail
                    go_at_call 4
                    refine (P4 wr).mono ?_
                    rintro e wq ⟨rfl, hwq⟩
                    rw [hwq]
                    clear hwq P4 wq
                    go_wp2_with (at_builtin; refine wpList_append_run _ rfl (.tmp 90) (.tmp 95) 25 25 rfl _ _ _ w' rfl rfl hrun ?_)
                    go_roundw
                    case rel => exact ⟨i + 1, n, av', nv', cv', rfl, rfl, by go_num, by omega, hnx, HN⟩
                    case measure => simp [intOf]; omega
                  · have zA : ¬ (i : Int) < nA := by omega
                    have HN : Hid (ApI w5 wr (1 + (cN : Nat)) LA' av nv cv (i + 1) n) := HI.out.stay (by have := H5.out.2.2.1; omega)
                    clear HI
                    go_wp2_with fail
                    go_at_call 4
                    refine (P4 wr).mono ?_
                    rintro e wq ⟨rfl, hwq⟩
                    rw [hwq]
                    clear hwq P4 wq
                    go_wp2
                    go_roundw
                    case rel => exact ⟨i + 1, n, av, nv, cv, rfl, rfl, by go_num, by omega, hnx, HN⟩
                    case measure => simp [intOf]; omega
              · have z2 : ¬ (i : Int) < n3 := by omega
                by_cases yA : i < nA
                · have zA : (i : Int) < nA := by omega
                  have hiL : i < LA'.length := by have := H5.out.2.2.1; omega
                  have hoA := H5.out.2.1.kp HI.out.kp
                  obtain ⟨gA, capA, eA⟩ := OO.some hoA (by omega)
                  simp only [Value.slice.injEq] at eA
                  obtain ⟨rfl, -, -⟩ := eA
                  obtain ⟨x0, x1, x2, x3, x4, x5⟩ := hoA.cells i hiL
                  have xok := H5.out.2.2.2.1 LA'[i] (List.getElem_mem hiL)
                  obtain ⟨LB, hoB, hokB, hownB, hlenB⟩ := HI.out.ex
                  obtain ⟨v', w', hrun, ho', hcg, hl⟩ := run_appO1 wr (.slice av nv cv) LB hoB LA'[i] (by omega) 25
                  obtain ⟨av', cv', hv', _, _⟩ := ho'.sh
                  obtain ⟨nv', hnv'⟩ : ∃ nv', nv' = (LB ++ [LA'[i]]).length := ⟨_, rfl⟩
                  rw [← hnv'] at hv'
                  subst hv'
                  have HN : Hid (ApI w5 w' (1 + (cN : Nat)) LA' av' nv' cv' (i + 1) n) := ApI.own HI.out.kp HI.out.nw hokB hownB hlenB hiL LA'[i] rfl xok.1 xok.2 (Kp.refl wr) ho' hcg hl
                  clear hoB hokB hownB hlenB ho' hcg hl hnv' xok HI hoA
                  generalize LA'[i] = xx at *
                  obtain ⟨xt, xc, xk, xp, xa, xb⟩ := xx
                  simp only at x0 x1 x2 x3 x4 x5 hrun
                  go_wp2_with (at_builtin; refine wpList_append_run _ rfl (.tmp 90) (.tmp 95) 25 25 rfl _ _ _ w' rfl rfl hrun ?_)
                  go_roundw
                  case rel => exact ⟨i + 1, n, av', nv', cv', rfl, rfl, by go_num, by omega, hnx, HN⟩
                  case measure => simp [intOf]; omega
                · have zA : ¬ (i : Int) < nA := by omega
                  have HN : Hid (ApI w5 wr (1 + (cN : Nat)) LA' av nv cv (i + 1) n) := HI.out.stay (by have := H5.out.2.2.1; omega)
                  clear HI
                  go_wp2
                  go_roundw
                  case rel => exact ⟨i + 1, n, av, nv, cv, rfl, rfl, by go_num, by omega, hnx, HN⟩
                  case measure => simp [intOf]; omega
            · have z1 : ¬ (n : Int) < nX := by omega
              by_cases yA : i < nA
              · have zA : (i : Int) < nA := by omega
                have hiL : i < LA'.length := by have := H5.out.2.2.1; omega
                have hoA := H5.out.2.1.kp HI.out.kp
                obtain ⟨gA, capA, eA⟩ := OO.some hoA (by omega)
                simp only [Value.slice.injEq] at eA
                obtain ⟨rfl, -, -⟩ := eA
                obtain ⟨x0, x1, x2, x3, x4, x5⟩ := hoA.cells i hiL
                have xok := H5.out.2.2.2.1 LA'[i] (List.getElem_mem hiL)
                obtain ⟨LB, hoB, hokB, hownB, hlenB⟩ := HI.out.ex
                obtain ⟨v', w', hrun, ho', hcg, hl⟩ := run_appO1 wr (.slice av nv cv) LB hoB LA'[i] (by omega) 25
                obtain ⟨av', cv', hv', _, _⟩ := ho'.sh
                obtain ⟨nv', hnv'⟩ : ∃ nv', nv' = (LB ++ [LA'[i]]).length := ⟨_, rfl⟩
                rw [← hnv'] at hv'
                subst hv'
                have HN : Hid (ApI w5 w' (1 + (cN : Nat)) LA' av' nv' cv' (i + 1) n) := ApI.own HI.out.kp HI.out.nw hokB hownB hlenB hiL LA'[i] rfl xok.1 xok.2 (Kp.refl wr) ho' hcg hl
                clear hoB hokB hownB hlenB ho' hcg hl hnv' xok HI hoA
                generalize LA'[i] = xx at *
                obtain ⟨xt, xc, xk, xp, xa, xb⟩ := xx
                simp only at x0 x1 x2 x3 x4 x5 hrun
                go_wp2_with (at_builtin; refine wpList_append_run _ rfl (.tmp 90) (.tmp 95) 25 25 rfl _ _ _ w' rfl rfl hrun ?_)
                go_roundw
                case rel => exact ⟨i + 1, n, av', nv', cv', rfl, rfl, by go_num, by omega, hnx, HN⟩
                case measure => simp [intOf]; omega
              · have zA : ¬ (i : Int) < nA := by omega
                have HN : Hid (ApI w5 wr (1 + (cN : Nat)) LA' av nv cv (i + 1) n) := HI.out.stay (by have := H5.out.2.2.1; omega)
                clear HI
                go_wp2
                go_roundw
                case rel => exact ⟨i + 1, n, av, nv, cv, rfl, rfl, by go_num, by omega, hnx, HN⟩
                case measure => simp [intOf]; omega
        · have hz : ¬ (i : Int) ≤ nA := by omega
          obtain ⟨LB, hoB, hokB, hownB, hlenB⟩ := HI.out.ex
          have kB := HI.out.kp
          obtain ⟨q1, q2, q3, q4, q5, q6, q7, q8, q9, q10⟩ := H5.out
          have hoA := q2.kp kB
          have hown : own (1 + (cN : Nat)) LB = LA' := by rw [hownB, List.take_of_length_le (by omega)]
          obtain ⟨aB', cB', eB, _, hIB⟩ := hoB.sh
          simp only [Value.slice.injEq] at eB
          obtain ⟨rfl, hnv, rfl⟩ := eB
          obtain ⟨aA', cA', eA, _, hIA⟩ := hoA.sh
          simp only [Value.slice.injEq] at eA
          obtain ⟨rfl, -, rfl⟩ := eA
          have HF : Hid (Kp w WR1 ∧ Gt WR1 ∧ ObI WR1 aA LA' ∧ ObI WR1 av LB ∧ nA = LA'.length ∧ nv = LB.length ∧ (∀ x ∈ LA', x.ok) ∧ (∀ x ∈ LB, x.ok) ∧ own (1 + (cN : Nat)) LB = LA' ∧ own (1 + (cN : Nat)) LA' = LA' ∧ LA'.length ≤ 1000 ∧ LB.length ≤ 1000) := ⟨q1.trans kB, q10.keep kB, hIA, hIB, q3, hnv, fun x hx => (q4 x hx).1, hokB, hown, q5, by omega, by omega⟩
          have hdg : dg (1 + (cN : Nat)) LB = dg (1 + (cN : Nat)) LA' := by unfold dg; rw [hown, q5]
          obtain ⟨dA, hdA⟩ : ∃ dA, dA = crc (rows (dg (1 + (cN : Nat)) LA')) := ⟨_, rfl⟩
          have hn1 : nA ≤ 1000 := by omega
          clear hoB hokB hownB hlenB kB q1 q2 q3 q4 q5 q6 q7 q8 q9 q10 hoA hown hIB hnv hIA HI H5
          have G0 : Hid (Kp WR1 WR1) := Kp.refl _
          have T1 := twin_any WR1 aA LA' cA (HF.out.2.2.1.kp G0.out) (by have := HF.out.2.2.2.2.2.2.2.2.2.2.1; omega)
          rw [← HF.out.2.2.2.2.1] at T1
          go_wp2_with fail
          go_at_call 7
          refine T1.mono ?_
          rintro e y1 ⟨v1, rfl, o1, k1, nw1⟩
          obtain ⟨b1, d1, hv1, _, i1⟩ := o1.sh
          rw [← HF.out.2.2.2.2.1] at hv1
          subst hv1
          have G1 : Hid (Kp WR1 y1) := G0.out.trans k1
          have I1 : Hid (ObI y1 b1 LA') := i1
          have O1 : Hid (OO y1 (.slice b1 nA d1) LA' ∧ Nw WR1 (.slice b1 nA d1)) := ⟨o1, nw1⟩
          clear T1 o1 k1 nw1 i1 G0
          have D2 := digest_any y1 (HF.out.2.1.keep G1.out) (1 + (cN : Nat)) b1 LA' d1 I1.out (by have := HF.out.2.2.2.2.2.2.2.2.2.2.1; omega) HF.out.2.2.2.2.2.2.1
          rw [← HF.out.2.2.2.2.1] at D2
          rw [← hdA] at D2
          go_wp2_with fail
          go_at_call 6
          refine D2.mono ?_
          rintro e y2 ⟨rfl, k2⟩
          have G2 : Hid (Kp WR1 y2) := G1.out.trans k2
          clear D2 k2 G1 I1 O1
          have T3 := twin_any y2 av LB cv (HF.out.2.2.2.1.kp G2.out) (by have := HF.out.2.2.2.2.2.2.2.2.2.2.2; omega)
          rw [← HF.out.2.2.2.2.2.1] at T3
          go_wp2_with fail
          go_at_call 7
          refine T3.mono ?_
          rintro e y3 ⟨v3, rfl, o3, k3, nw3⟩
          obtain ⟨b3, d3, hv3, _, i3⟩ := o3.sh
          rw [← HF.out.2.2.2.2.2.1] at hv3
          subst hv3
          have G3 : Hid (Kp WR1 y3) := G2.out.trans k3
          have I3 : Hid (ObI y3 b3 LB) := i3
          have O3 : Hid (OO y3 (.slice b3 nv d3) LB ∧ Nw y2 (.slice b3 nv d3)) := ⟨o3, nw3⟩
          clear T3 o3 k3 nw3 i3 G2
          have D4 := digest_any y3 (HF.out.2.1.keep G3.out) (1 + (cN : Nat)) b3 LB d3 I3.out (by have := HF.out.2.2.2.2.2.2.2.2.2.2.2; omega) HF.out.2.2.2.2.2.2.2.1
          rw [← HF.out.2.2.2.2.2.1] at D4
          rw [hdg] at D4
          rw [← hdA] at D4
          go_wp2_with fail
          go_at_call 6
          refine D4.mono ?_
          rintro e y4 ⟨rfl, k4⟩
          have G4 : Hid (Kp WR1 y4) := G3.out.trans k4
          clear D4 k4 G3 I3 O3
          have T5 := twin_any y4 aA LA' cA (HF.out.2.2.1.kp G4.out) (by have := HF.out.2.2.2.2.2.2.2.2.2.2.1; omega)
          rw [← HF.out.2.2.2.2.1] at T5
          go_wp2_with fail
          go_at_call 7
          refine T5.mono ?_
          rintro e y5 ⟨v5, rfl, o5, k5, nw5⟩
          obtain ⟨b5, d5, hv5, _, i5⟩ := o5.sh
          rw [← HF.out.2.2.2.2.1] at hv5
          subst hv5
          have G5 : Hid (Kp WR1 y5) := G4.out.trans k5
          have I5 : Hid (ObI y5 b5 LA') := i5
          have O5 : Hid (OO y5 (.slice b5 nA d5) LA' ∧ Nw y4 (.slice b5 nA d5)) := ⟨o5, nw5⟩
          clear T5 o5 k5 nw5 i5 G4
          have T6 := twin_any y5 av LB cv (HF.out.2.2.2.1.kp G5.out) (by have := HF.out.2.2.2.2.2.2.2.2.2.2.2; omega)
          rw [← HF.out.2.2.2.2.2.1] at T6
          go_wp2_with fail
          go_at_call 7
          refine T6.mono ?_
          rintro e y6 ⟨v6, rfl, o6, k6, nw6⟩
          obtain ⟨b6, d6, hv6, _, i6⟩ := o6.sh
          rw [← HF.out.2.2.2.2.2.1] at hv6
          subst hv6
          have G6 : Hid (Kp WR1 y6) := G5.out.trans k6
          have I5b : Hid (ObI y6 b5 LA') := I5.out.kp k6
          clear I5
          have I5 : Hid (ObI y6 b5 LA') := I5b.out
          clear I5b
          have I6 : Hid (ObI y6 b6 LB) := i6
          have O6 : Hid (OO y6 (.slice b6 nv d6) LB ∧ Nw y5 (.slice b6 nv d6)) := ⟨o6, nw6⟩
          clear T6 o6 k6 nw6 i6 G5
          have Q7 := part_pre y6 (1 + (cN : Nat)) b5 b6 LA' LB d5 d6 I5.out I6.out (by have := HF.out.2.2.2.2.2.2.2.2.2.2.1; omega) (by have := HF.out.2.2.2.2.2.2.2.2.2.2.2; omega) HF.out.2.2.2.2.2.2.1 HF.out.2.2.2.2.2.2.2.1 [] (by rw [HF.out.2.2.2.2.2.2.2.2.1, HF.out.2.2.2.2.2.2.2.2.2.1, List.append_nil]) (-1) (by simp)
          rw [← HF.out.2.2.2.2.1, ← HF.out.2.2.2.2.2.1] at Q7
          go_wp2_with fail
          go_at_call 8
          refine Q7.mono ?_
          rintro e y7 ⟨rfl, k7⟩
          have G7 : Hid (Kp WR1 y7) := G6.out.trans k7
          clear Q7 k7 G6 I5 I6 O5 O6
          have T8 := twin_any y7 av LB cv (HF.out.2.2.2.1.kp G7.out) (by have := HF.out.2.2.2.2.2.2.2.2.2.2.2; omega)
          rw [← HF.out.2.2.2.2.2.1] at T8
          go_wp2_with fail
          go_at_call 7
          refine T8.mono ?_
          rintro e y8 ⟨v8, rfl, o8, k8, nw8⟩
          obtain ⟨b8, d8, hv8, _, i8⟩ := o8.sh
          rw [← HF.out.2.2.2.2.2.1] at hv8
          subst hv8
          have G8 : Hid (Kp WR1 y8) := G7.out.trans k8
          have I8 : Hid (ObI y8 b8 LB) := i8
          have B8 : Hid (Kp WR1 y8 ∧ (LB = [] ∨ ∀ bb oo, b8 = some ⟨bb, oo, none⟩ → bb < y8.heap.size)) := by
            refine ⟨G8.out, ?_⟩
            by_cases h0 : LB = []
            · exact .inl h0
            · right
              intro bb oo e
              rcases I8.out with h | ⟨b', o', e', hr⟩
              · exact absurd h h0
              · rw [e] at e'
                cases e'
                exact lt_of_cell (hr.c 0 (List.length_pos_iff.2 h0)).1
          have O8 : Hid (OO y8 (.slice b8 nv d8) LB ∧ Nw y7 (.slice b8 nv d8)) := ⟨o8, nw8⟩
          clear T8 o8 k8 nw8 i8 G7
          have T9 := twin_any y8 aA LA' cA (HF.out.2.2.1.kp G8.out) (by have := HF.out.2.2.2.2.2.2.2.2.2.2.1; omega)
          rw [← HF.out.2.2.2.2.1] at T9
          go_wp2_with fail
          go_at_call 7
          refine T9.mono ?_
          rintro e y9 ⟨v9, rfl, o9, k9, nw9⟩
          obtain ⟨b9, d9, hv9, _, i9⟩ := o9.sh
          rw [← HF.out.2.2.2.2.1] at hv9
          subst hv9
          have G9 : Hid (Kp WR1 y9) := G8.out.trans k9
          have I8b : Hid (ObI y9 b8 LB) := I8.out.kp k9
          clear I8
          have I8 : Hid (ObI y9 b8 LB) := I8b.out
          clear I8b
          have I9 : Hid (ObI y9 b9 LA') := i9
          have O9 : Hid (OO y9 (.slice b9 nA d9) LA' ∧ Nw y8 (.slice b9 nA d9)) := ⟨o9, nw9⟩
          clear T9 o9 k9 nw9 i9 G8
          obtain ⟨vz, wz, hrun, oz, cz, lz⟩ := run_appO1 y9 (.slice b9 nA d9) LA' O9.out.1 (⟨0, 1 + (cN : Nat), 6, 0, 0, 0⟩ : Ob) (by have := HF.out.2.2.2.2.2.2.2.2.2.2.1; omega) 25
          simp only at hrun
          obtain ⟨bz, dz, hvz, _, iz⟩ := oz.sh
          obtain ⟨nz, hnz⟩ : ∃ nz, nz = (LA' ++ [(⟨0, 1 + (cN : Nat), 6, 0, 0, 0⟩ : Ob)]).length := ⟨_, rfl⟩
          rw [← hnz] at hvz
          subst hvz
          have kz : Kp WR1 wz := Chg.trans G9.out cz (fun j hj e => by
            have e1 := O9.out.2 j e
            have e2 := B8.out.1.size
            omega)
          have Ibz : ObI wz b8 LB := by
            rcases B8.out.2 with h0 | hbnd
            · exact .inl h0
            · rcases I8.out with e | ⟨bb, oo, e, hr⟩
              · exact .inl e
              · exact .inr ⟨bb, oo, e, hr.chg cz (fun e2 => by
                  have e1 := O9.out.2 bb e2
                  have e3 := hbnd bb oo e
                  omega)⟩
          have hHok : ((⟨0, 1 + (cN : Nat), 6, 0, 0, 0⟩ : Ob)).ok := ⟨by show (0 : Int) ≤ 0 ∧ (0 : Int) < 18446744073709551616; omega, by show -9223372036854775808 ≤ 1 + ((cN : Nat) : Int) ∧ 1 + ((cN : Nat) : Int) ≤ 9223372036854775807; omega, by show -9223372036854775808 ≤ (6 : Int) ∧ (6 : Int) ≤ 9223372036854775807; omega, by show (0 : Int) ≤ 0 ∧ (0 : Int) < 4294967296; omega, by show (0 : Int) ≤ 0 ∧ (0 : Int) < 4294967296; omega, by show (0 : Int) ≤ 0 ∧ (0 : Int) < 4294967296; omega⟩
          have Qz := part_pre wz (1 + (cN : Nat)) b8 bz LB (LA' ++ [(⟨0, 1 + (cN : Nat), 6, 0, 0, 0⟩ : Ob)]) d8 dz Ibz iz (by have := HF.out.2.2.2.2.2.2.2.2.2.2.2; omega) (by have := HF.out.2.2.2.2.2.2.2.2.2.2.1; simp; omega) HF.out.2.2.2.2.2.2.2.1 (by
            intro y hy
            rcases List.mem_append.1 hy with hy | hy
            · exact HF.out.2.2.2.2.2.2.1 y hy
            · simp at hy; subst hy; exact hHok) [(⟨0, 1 + (cN : Nat), 6, 0, 0, 0⟩ : Ob)] (by rw [own_yes (c := 1 + ((cN : Nat) : Int)) (x := (⟨0, 1 + (cN : Nat), 6, 0, 0, 0⟩ : Ob)) rfl, HF.out.2.2.2.2.2.2.2.2.1, HF.out.2.2.2.2.2.2.2.2.2.1]) (nA : Nat) (by rw [HF.out.2.2.2.2.2.2.2.2.1, if_neg (by simp)]; have := HF.out.2.2.2.2.1; omega)
          rw [← HF.out.2.2.2.2.2.1, ← hnz] at Qz
          have Gz : Hid (Kp WR1 wz) := kz
          clear oz cz lz iz hnz kz Ibz hHok I9 I8 O9 O8 B8 G9
          go_wp2_with (at_builtin; refine wpList_append_run _ rfl (.tmp 115) (.tmp 118) 25 25 rfl _ _ _ wz rfl rfl hrun ?_)
          go_at_call 8
          refine Qz.mono ?_
          rintro e z1 ⟨rfl, kz1⟩
          have Gz1 : Hid (Kp WR1 z1) := Gz.out.trans kz1
          have Dz := digest_any z1 (HF.out.2.1.keep Gz1.out) (1 + (cN : Nat)) none [] 0 (.inl rfl) (by simp) (by simp)
          have hc0 : crc (rows (dg (1 + ((cN : Nat) : Int)) [])) = 0 := crc_none
          rw [hc0] at Dz
          simp only [List.length_nil] at Dz
          clear Qz kz1 Gz hc0
          go_wp2_with fail
          go_at_call 6
          refine Dz.mono ?_
          rintro e z2 ⟨rfl, kz2⟩
          have Gz2 : Hid (Kp w z2) := (HF.out.1.trans Gz1.out).trans kz2
          clear Dz kz2 Gz1 HF
          go_wp2
          go_ret
          exact ⟨rfl, Gz2.out⟩
end Go.Proofs.YtfmiicbaooaheaaDoor
