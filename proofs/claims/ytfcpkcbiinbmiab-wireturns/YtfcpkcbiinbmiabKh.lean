import Derived.Test.YtfcpkcbiinbmiabKq
import Derived.Test.YtfcpkcbiinbmiabOps
import Derived.Deep.CutRange
import Derived.Deep.CutBlock
namespace Go.Proofs.Ytfcpkcbiinbmiab
open Go.ChangeShapes Go.WideShapes Go.ChangeAt Go.RowKit Go.ChangeMaps
set_option linter.unusedVariables false
set_option maxHeartbeats 8000000 in
set_option maxRecDepth 10000 in
theorem turns_walk (w : World) (lim mu : Int) (hl1 : -9223372036854775808 ≤ lim) (hl2 : lim ≤ 9223372036854775807) (ba ca sa : Option Addr) (bl bc cl cc sc : Nat) (bs cs : List Int) (hb : Bs w ba bl bs) (hbc : bl ≤ bc) (hbl : bl ≤ 140737488351232) (hc : Bs w ca cl cs) (hcc : cl ≤ cc) (hcl : cl ≤ 140737488351232) (ts : List TuV) (hts : TusIn w sa ts) (hm1 : -9223372036854775808 ≤ mu) (hm2 : mu ≤ 9223372036854775807) :
    Calls Try.prog 3 #[.int .i64 lim, .slice ba bl bc, .slice ca cl cc, .slice sa ts.length sc, .int .i64 mu] w fun e w' => e = .returned (.bool true) ∧ Below w.heap.size w w' := by
  have htl := hts.1
  have HC : Hid (Bs w ba bl bs ∧ Bs w ca cl cs) := ⟨hb, hc⟩
  have HS : Hid (TusIn w sa ts) := hts
  clear hb hc hts
  have hpk : ∀ wx : World, Calls Try.prog 5 #[.int .i64 lim, .int .i64 3000000] wx fun r w' => r = .returned (.int .i64 (pickN lim 3000000 : Nat)) ∧ w' = wx := fun wx => pick_any wx lim 3000000 (by omega) (by omega) hl1 hl2
  have hP := pickN_lt lim 3000000 (by omega)
  generalize pickN lim 3000000 = p at *
  go_enter Try.func3, Try.ntmps3
  go_wp2_with fail
  go_at_call 4
  refine (known_any w).mono ?_
  rintro e w1 ⟨rfl, hb1⟩
  have HB1 : Hid (Below w.heap.size w w1) := hb1
  clear hb1
  go_wp2_with fail
  refine wp_loop_rounds 3 ?_
  rw [rounds_succ]
  go_wp2_with fail
  go_at_call 5
  refine (hpk _).mono ?_
  rintro e wq ⟨rfl, hw⟩
  rw [hw]
  clear hw wq
  obtain ⟨W2, hW2⟩ : ∃ W2, W2 = w1.alloc (.cells #[.pointer none, .pointer none] 26) := ⟨_, rfl⟩
  rw [← hW2]
  have hA2 : W2.heap[w1.heap.size]? = some (.cells #[.pointer none, .pointer none] 26 (0, 0)) := by rw [hW2]; exact heap_alloc_new w1 _
  have hS2 : w.heap.size ≤ w1.heap.size ∧ Below w.heap.size w W2 := ⟨HB1.out.size, HB1.out.trans (by rw [hW2]; exact Chg.below (Kp.al w1 _) HB1.out.size (by simp))⟩
  clear HB1 hW2
  have H2 : Hid (W2.heap[w1.heap.size]? = some (.cells #[.pointer none, .pointer none] 26 (0, 0)) ∧ w.heap.size ≤ w1.heap.size ∧ Below w.heap.size w W2) := ⟨hA2, hS2⟩
  clear hA2 hS2
  generalize w1.heap.size = A at *
  have A1 := newWriter_ok 3000000 W2 (by omega)
  go_wp2_with fail
  go_at_call 6
  refine A1.mono ?_
  clear A1
  rintro e w3 ⟨rfl, hW3, k3⟩
  have A1 := vNew_ok 3000000 w3 (by omega)
  have H3 : Hid (IsW w3 (W2.heap.size + 1) W2.heap.size (.slice none 0 0) (.map #[] 0) 3000000 [] 0 ∧ Kp W2 w3) := ⟨hW3, k3⟩
  clear hW3 k3
  go_wp2_with fail
  go_at_call 7
  refine A1.mono ?_
  clear A1
  rintro e w4 ⟨rfl, hV4, k4⟩
  have M0 := mkr 0 (.pointer (some ⟨w4.heap.size, 0, none⟩)) H2.out.1 H3.out.1 H3.out.2 hV4 k4 (cs' := #[.pointer (some ⟨w4.heap.size, 0, none⟩), .pointer none]) rfl
  have hAk := (((H3.out.2.trans k4).trans (Kp.al w4 (.cells #[.pointer (some ⟨W2.heap.size + 1, 0, none⟩), .pointer (some ⟨w3.heap.size, 0, none⟩), .slice none 0 0, .int .i64 0, .int .i64 0] 37))).heap H2.out.1)
  have c0 := (cells_at hAk 0).1
  have f0 := (cells_at hAk 0).2
  simp only [List.getElem?_toArray, List.getElem?_cons_zero] at c0
  have M1 : Hid _ := M0
  clear M0 hAk hV4 k4 H3
  go_wp2_with fail
  obtain ⟨W6, hW6⟩ : ∃ W6, W6 = (w4.alloc (.cells #[.pointer (some ⟨W2.heap.size + 1, 0, none⟩), .pointer (some ⟨w3.heap.size, 0, none⟩), .slice none 0 0, .int .i64 0, .int .i64 0] 37)).setCell ⟨A, 0, none⟩ (.pointer (some ⟨w4.heap.size, 0, none⟩)) := ⟨_, rfl⟩
  rw [← hW6] at M1 ⊢
  clear hW6 c0 f0
  have H6 : Hid (New W6 (W2.heap.size + 1) W2.heap.size w3.heap.size w4.heap.size 3000000 ∧ W6.heap[A]? = some (.cells #[.pointer (some ⟨w4.heap.size, 0, none⟩), .pointer none] 26 (0, 0)) ∧ Below w.heap.size w W6 ∧ w.heap.size ≤ A ∧ A < W2.heap.size ∧ W2.heap.size + 1 < w3.heap.size ∧ w3.heap.size < w4.heap.size ∧ w4.heap.size < W6.heap.size) := by
    obtain ⟨x1, x2, x3, x4, x5, x6⟩ := M1.out
    obtain ⟨y1, y2, y3⟩ := H2.out
    exact ⟨x1, x2, y3.trans (Chg.below x3 y3.size (fun k hk => by omega)), y2, hp_lt y1, x4, x5, x6⟩
  clear M1 H2
  generalize W2.heap.size = m0 at *
  generalize w3.heap.size = d0 at *
  generalize w4.heap.size = x0 at *
  clear W2 w3 w4
  rw [rounds_succ]
  have z1 : IntKind.i64.wrap (1 * (p : Int)) = p := by simp [IntKind.wrap, IntKind.bits, IntKind.signed]; omega
  have z2 : IntKind.i64.wrap (p : Int) = p := by simp [IntKind.wrap, IntKind.bits, IntKind.signed]; omega
  have z3 : IntKind.i64.wrap (3000000 - (p : Int)) = ((3000000 - p : Nat) : Int) := by simp [IntKind.wrap, IntKind.bits, IntKind.signed]; omega
  go_wp2_with fail
  go_at_call 5
  refine (hpk _).mono ?_
  rintro e wq ⟨rfl, hw⟩
  rw [hw]
  clear hw wq
  have A1 := newWriter_ok (3000000 - p) W6 (by omega)
  go_wp2_with fail
  go_at_call 6
  refine A1.mono ?_
  clear A1
  rintro e w3 ⟨rfl, hW3, k3⟩
  have A1 := vNew_ok (3000000 - p) w3 (by omega)
  have H3 : Hid (IsW w3 (W6.heap.size + 1) W6.heap.size (.slice none 0 0) (.map #[] 0) (3000000 - p) [] 0 ∧ Kp W6 w3) := ⟨hW3, k3⟩
  clear hW3 k3
  go_wp2_with fail
  go_at_call 7
  refine A1.mono ?_
  clear A1
  rintro e w4 ⟨rfl, hV4, k4⟩
  have M0 := mkr 1 (.pointer (some ⟨w4.heap.size, 0, none⟩)) H6.out.2.1 H3.out.1 H3.out.2 hV4 k4 (cs' := #[.pointer (some ⟨x0, 0, none⟩), .pointer (some ⟨w4.heap.size, 0, none⟩)]) rfl
  have hAk := (((H3.out.2.trans k4).trans (Kp.al w4 (.cells #[.pointer (some ⟨W6.heap.size + 1, 0, none⟩), .pointer (some ⟨w3.heap.size, 0, none⟩), .slice none 0 0, .int .i64 0, .int .i64 0] 37))).heap H6.out.2.1)
  have c0 := (cells_at hAk 1).1
  have f0 := (cells_at hAk 1).2
  simp only [List.getElem?_toArray, List.getElem?_cons_zero, List.getElem?_cons_succ] at c0
  have M1 : Hid _ := M0
  clear M0 hAk hV4 k4 H3
  go_wp2_with fail
  obtain ⟨W9, hW9⟩ : ∃ W9, W9 = (w4.alloc (.cells #[.pointer (some ⟨W6.heap.size + 1, 0, none⟩), .pointer (some ⟨w3.heap.size, 0, none⟩), .slice none 0 0, .int .i64 0, .int .i64 0] 37)).setCell ⟨A, 1, none⟩ (.pointer (some ⟨w4.heap.size, 0, none⟩)) := ⟨_, rfl⟩
  rw [← hW9] at M1 ⊢
  clear hW9 c0 f0
  have H9 : Hid (New W9 (m0 + 1) m0 d0 x0 3000000 ∧ New W9 (W6.heap.size + 1) W6.heap.size w3.heap.size w4.heap.size (3000000 - p) ∧ W9.heap[A]? = some (.cells #[.pointer (some ⟨x0, 0, none⟩), .pointer (some ⟨w4.heap.size, 0, none⟩)] 26 (0, 0)) ∧ Below w.heap.size w W9 ∧ w.heap.size ≤ A ∧ A < m0 ∧ m0 + 1 < d0 ∧ d0 < x0 ∧ x0 < W6.heap.size ∧ W6.heap.size + 1 < w3.heap.size ∧ w3.heap.size < w4.heap.size ∧ w4.heap.size < W9.heap.size) := by
    obtain ⟨x1, x2, x3, x4, x5, x6⟩ := M1.out
    obtain ⟨y1, y2, y3, y4, y5, y6, y7, y8⟩ := H6.out
    exact ⟨y1.chg x3 (by omega) (by omega) (by omega) (by omega), x1, x2, y3.trans (Chg.below x3 y3.size (fun k hk => by omega)), y4, y5, y6, y7, y8, x4, x5, x6⟩
  clear M1 H6 z1 z2 z3
  generalize W6.heap.size = m1 at *
  generalize w3.heap.size = d1 at *
  generalize w4.heap.size = x1 at *
  clear W6 w3 w4
  rw [rounds_succ]
  go_wp2_with fail
  obtain ⟨Wa, hWa⟩ : ∃ Wa, Wa = W9.alloc (.cells #[.pointer none, .pointer none, .pointer none, .pointer none] 42) := ⟨_, rfl⟩
  rw [← hWa]
  have HI : Hid (Lr W9 Wa 0) := by rw [hWa]; exact Lr.init W9
  clear hWa
  obtain ⟨N, hN⟩ : ∃ N, N = W9.heap.size := ⟨_, rfl⟩
  have HN : Hid (N = W9.heap.size) := hN
  rw [← hN]
  clear hN
  go_loopw [20, 21, 22] (fun s20 s21 s22 wr => ∃ k : Nat, s20 = .int .i64 k ∧ k ≤ 2 ∧ Hid (Lr W9 wr k)) (fun s20 _ _ _ => 2 - nI s20)
  case atStart => exact ⟨0, rfl, by omega, HI.out⟩
  case round =>
    obtain ⟨k, rfl, hk, HR⟩ := hrel
    clear HI
    rename World => wz
    have hbw : Below w.heap.size w wz := (H9.out.2.2.2.1).trans (Chg.below HR.out.1 (H9.out.2.2.2.1).size (by simp))
    have hbz := Below.bs HC.out.1 hbw
    have hcz := Below.bs HC.out.2 hbw
    have hlz : N < wz.heap.size := by rw [HN.out]; obtain ⟨_, _, _, _, _, q, _⟩ := HR.out; exact hp_lt q
    clear hbw
    have hkk : k = 0 ∨ k = 1 ∨ k = 2 := by omega
    rcases hkk with rfl | rfl | rfl
    · by_cases h2 : 20000 < bl
      · have h2z : (bl : Int) > 20000 := by omega
        have h3z : (20000 : Int) ≤ (bc : Int) := by omega
        have hb2 := Bs.pre2 hbz (n := 20000) (by omega)
        have hll : (bs.take 20000).length ≤ 20000 := by simp; omega
        have A1 := newReader_any wz ba 20000 bc (bs.take 20000) hb2
        clear hbz hcz
        go_wp2_with fail
        go_at_call 8
        refine A1.mono ?_
        clear A1
        rintro e w3 ⟨R, a', ca', rfl, i3, k3, r3, d3⟩
        have A1 := dnew_any w3 ba 20000 bc (bs.take 20000) (hb2.chg k3 (by simp))
        have H3 : Hid (IsR w3 R a' ca' (bs.take 20000) 0 0 0 ∧ Kp wz w3 ∧ wz.heap.size ≤ R ∧ ∀ b o, a' = some ⟨b, o, none⟩ → wz.heap.size ≤ b) := ⟨i3, k3, r3, d3⟩
        clear i3 k3 r3 d3 hb2
        go_wp2_with fail
        go_at_call 9
        refine A1.mono ?_
        clear A1
        rintro e w4 ⟨E, b', cb', rfl, i4, k4, r4, d4⟩
        obtain ⟨u, v, e1, e2, e3, e4, e5⟩ := Lr.st0 HN.out hll H3.out.1 H3.out.2.1 H3.out.2.2.1 H3.out.2.2.2 i4 k4 r4 d4 HR.out
        have H5 : Hid (Lr W9 _ 1) := e5
        clear e5 i4 k4 r4 d4 H3 HR
        go_wp2_with fail
        exact ⟨⟨1, by go_num, by omega, H5.out⟩, by simp [nI]⟩
      · have h2z : ¬ (bl : Int) > 20000 := by omega
        have hb2 := hbz
        have hll : bs.length ≤ 20000 := by have := hb2.1; omega
        have A1 := newReader_any wz ba bl bc bs hb2
        clear hbz hcz
        go_wp2_with fail
        go_at_call 8
        refine A1.mono ?_
        clear A1
        rintro e w3 ⟨R, a', ca', rfl, i3, k3, r3, d3⟩
        have A1 := dnew_any w3 ba bl bc bs (hb2.chg k3 (by simp))
        have H3 : Hid (IsR w3 R a' ca' bs 0 0 0 ∧ Kp wz w3 ∧ wz.heap.size ≤ R ∧ ∀ b o, a' = some ⟨b, o, none⟩ → wz.heap.size ≤ b) := ⟨i3, k3, r3, d3⟩
        clear i3 k3 r3 d3 hb2
        go_wp2_with fail
        go_at_call 9
        refine A1.mono ?_
        clear A1
        rintro e w4 ⟨E, b', cb', rfl, i4, k4, r4, d4⟩
        obtain ⟨u, v, e1, e2, e3, e4, e5⟩ := Lr.st0 HN.out hll H3.out.1 H3.out.2.1 H3.out.2.2.1 H3.out.2.2.2 i4 k4 r4 d4 HR.out
        have H5 : Hid (Lr W9 _ 1) := e5
        clear e5 i4 k4 r4 d4 H3 HR
        go_wp2_with fail
        exact ⟨⟨1, by go_num, by omega, H5.out⟩, by simp [nI]⟩
    · by_cases h2 : 20000 < cl
      · have h2z : (cl : Int) > 20000 := by omega
        have h3z : (20000 : Int) ≤ (cc : Int) := by omega
        have hb2 := Bs.pre2 hcz (n := 20000) (by omega)
        have hll : (cs.take 20000).length ≤ 20000 := by simp; omega
        have A1 := newReader_any wz ca 20000 cc (cs.take 20000) hb2
        clear hbz hcz
        go_wp2_with fail
        go_at_call 8
        refine A1.mono ?_
        clear A1
        rintro e w3 ⟨R, a', ca', rfl, i3, k3, r3, d3⟩
        have A1 := dnew_any w3 ca 20000 cc (cs.take 20000) (hb2.chg k3 (by simp))
        have H3 : Hid (IsR w3 R a' ca' (cs.take 20000) 0 0 0 ∧ Kp wz w3 ∧ wz.heap.size ≤ R ∧ ∀ b o, a' = some ⟨b, o, none⟩ → wz.heap.size ≤ b) := ⟨i3, k3, r3, d3⟩
        clear i3 k3 r3 d3 hb2
        go_wp2_with fail
        go_at_call 9
        refine A1.mono ?_
        clear A1
        rintro e w4 ⟨E, b', cb', rfl, i4, k4, r4, d4⟩
        obtain ⟨u, v, e1, e2, e3, e4, e5⟩ := Lr.st1 HN.out hll H3.out.1 H3.out.2.1 H3.out.2.2.1 H3.out.2.2.2 i4 k4 r4 d4 HR.out
        have H5 : Hid (Lr W9 _ 2) := e5
        clear e5 i4 k4 r4 d4 H3 HR
        go_wp2_with fail
        exact ⟨⟨2, by go_num, by omega, H5.out⟩, by simp [nI]⟩
      · have h2z : ¬ (cl : Int) > 20000 := by omega
        have hb2 := hcz
        have hll : cs.length ≤ 20000 := by have := hb2.1; omega
        have A1 := newReader_any wz ca cl cc cs hb2
        clear hbz hcz
        go_wp2_with fail
        go_at_call 8
        refine A1.mono ?_
        clear A1
        rintro e w3 ⟨R, a', ca', rfl, i3, k3, r3, d3⟩
        have A1 := dnew_any w3 ca cl cc cs (hb2.chg k3 (by simp))
        have H3 : Hid (IsR w3 R a' ca' cs 0 0 0 ∧ Kp wz w3 ∧ wz.heap.size ≤ R ∧ ∀ b o, a' = some ⟨b, o, none⟩ → wz.heap.size ≤ b) := ⟨i3, k3, r3, d3⟩
        clear i3 k3 r3 d3 hb2
        go_wp2_with fail
        go_at_call 9
        refine A1.mono ?_
        clear A1
        rintro e w4 ⟨E, b', cb', rfl, i4, k4, r4, d4⟩
        obtain ⟨u, v, e1, e2, e3, e4, e5⟩ := Lr.st1 HN.out hll H3.out.1 H3.out.2.1 H3.out.2.2.1 H3.out.2.2.2 i4 k4 r4 d4 HR.out
        have H5 : Hid (Lr W9 _ 2) := e5
        clear e5 i4 k4 r4 d4 H3 HR
        go_wp2_with fail
        exact ⟨⟨2, by go_num, by omega, H5.out⟩, by simp [nI]⟩
    · clear hbz hcz
      have H3 : Hid (∃ q : Wh, q.K = wz.heap.size ∧ TL w (wz.alloc (.cells #[.slice none 0 0, .slice none 0 0, .slice none 0 0, .slice none 0 0, .slice none 0 0, .slice none 0 0] 48)) q A N 0) := by
        obtain ⟨q, e, t⟩ := TI.start H9.out HN.out HR.out
        exact ⟨q, e, _, [], [], t, by simp, by simp, by simp⟩
      obtain ⟨q, hq, t3⟩ := H3.out
      have H4 : Hid (TL w (wz.alloc (.cells #[.slice none 0 0, .slice none 0 0, .slice none 0 0, .slice none 0 0, .slice none 0 0, .slice none 0 0] 48)) q A N 0) := t3
      clear t3 H3 H9 HN HR hlz HC
      go_upto_block 4 with fail
      obtain ⟨Wb, hWb⟩ : ∃ Wb, Wb = wz.alloc (.cells #[.slice none 0 0, .slice none 0 0, .slice none 0 0, .slice none 0 0, .slice none 0 0, .slice none 0 0] 48) := ⟨_, rfl⟩
      rw [← hWb] at H4 ⊢
      clear hWb
      rw [← hq]
      clear hq
      go_cut [24, 25, 26, 27, 28, 29, 30, 31] from 104 to 177 (fun s24 s25 s26 s27 s28 s29 s30 s31 wx => Hid (TE w wx q A N))
      case first =>
        as_aux_lemma =>
          go_wp2_with fail
          go_loopw [24, 25, 26, 27, 28, 29, 30, 31] (fun s24 s25 s26 s27 s28 s29 s30 s31 wr => ∃ k : Nat, s24 = .int .i64 k ∧ k ≤ 200 ∧ k ≤ ts.length ∧ Hid (TL w wr q A N k)) (fun s24 _ _ _ _ _ _ _ _ => 200 - nI s24)
          case atStart => exact ⟨0, rfl, by omega, by omega, H4.out⟩
          case round =>
            obtain ⟨k, rfl, hk3, hk2, HR⟩ := hrel
            clear H4
            rename World => wy
            obtain ⟨σ, es, hs, hI, l1, l2, l3⟩ := HR.out
            clear HR
            by_cases hlt : k < ts.length ∧ k < 200
            · obtain ⟨hl1, hl2⟩ := hlt
              have h1z : (k : Int) < (ts.length : Int) := by omega
              have h2z : (k : Int) < 200 := by omega
              obtain ⟨sb, so, hsa, hop⟩ := HS.out.2.2.resolve_left (by omega)
              subst hsa
              obtain ⟨t0, o0, o1, o2, o3, o4⟩ := (hop k hl1).below hI.tw.bel
              have hdat := HS.out.2.1 ts[k] (List.getElem_mem hl1)
              clear hop
              generalize ts[k] = tv at *
              obtain ⟨side, kind, nn, kk, ba2, bl2, bc2, vb9, str⟩ := tv
              obtain ⟨hsd, ⟨hok1, hok2, hok3⟩, hbs, hbl, hbc, hbn, hstr⟩ := hdat
              simp only at t0 o0 o1 o2 o3 o4 hok1 hok2 hok3 hbs hbl hbc hbn hstr hsd
              have A0 := cut_any wy kind nn kk ba2 bl2 bc2 str hbc (by omega) (by omega)
              have H0 : Hid (TI w wy σ q A N k es [] hs true ∧ (∀ e, e ∈ hs → e.o < 2 * k) ∧ Bs w ba2 bl2 vb9) := ⟨hI, l3, hbs⟩
              clear hI l3 hbs
              go_wp2_with fail
              go_at_call 10
              refine A0.mono ?_
              clear A0
              rintro e w4 ⟨bl', str', rfl, c1, c2, c3, k4⟩
              obtain ⟨W5, hW5⟩ : ∃ W5, W5 = w4.alloc (.cells #[.int .i64 kind, .int .u64 nn, .int .i64 kk, .slice ba2 bl' bc2, .string str'] 51) := ⟨_, rfl⟩
              have k5 : Kp wy W5 := k4.trans (by rw [hW5]; exact Kp.al _ _)
              have tb : W5.heap[w4.heap.size]? = some (.cells #[.int .i64 kind, .int .u64 nn, .int .i64 kk, .slice ba2 bl' bc2, .string str'] 51 (0, 0)) := by rw [hW5]; exact heap_alloc_new w4 _
              have HT : Hid (TT w W5 σ q A N w4.heap.size k es [] hs true kind nn kk ba2 bl' bc2 str') := by
                obtain ⟨r1, r2, r3, r4⟩ := H0.out.1.tw.rlt
                have := k4.size
                exact ⟨H0.out.1.kp k5, H0.out.1.tw.fz _ k4.size, tb, by omega, by omega, by omega, by omega⟩
              have HB : Hid (Bs w ba2 bl' (vb9.take bl')) := Bs.pre2 H0.out.2.2 c2
              have hpk := fun wx : World => pick_any wx side 4 (by omega) (by omega) hsd.1 hsd.2
              have hpn := pickN_lt side 4 (by omega)
              generalize pickN side 4 = pn at *
              rw [hW5] at k5
              have t1 := k5.cell t0
              clear t0 o0 o1 o2 o3 o4 k4 k5 tb
              go_wp2_with fail
              go_at_call 5
              refine (hpk _).mono ?_
              rintro e wq ⟨rfl, hw⟩
              rw [hw]
              clear hw wq hpk t1
              rw [← hW5]
              clear hW5
              generalize w4.heap.size = T at *
              have hpp : pn = 0 ∨ pn = 1 ∨ pn = 2 ∨ pn = 3 := by omega
              clear hpn
              go_upto_if 127 with fail
              go_cut [27, 28] from 104 to 177 (fun s27 s28 wx => s27 = .bool true ∧ ∃ σ7 fs7, Hid (TI w wx σ7 q A N (k + 1) es fs7 hs true ∧ fs7.length ≤ 2 ∧ ∀ e, e ∈ fs7 → 2 * k ≤ e.o ∧ e.o < 2 * k + 2))
              case first =>
                rcases hpp with rfl | rfl | rfl | rfl
                · as_aux_lemma =>
                    have A1 := (HT.out.kp (Kp.drew W5)).much0 hok3.1 hok3.2 (by omega) (by omega)
                    have A2 := (HT.out.kp (Kp.drew W5)).sx0
                    go_upto_region 33 with fail
                    refine reg3_33 W5 A T 0 q.X0 q.K kind nn kk ba2 bl' bc2 str' (by omega) A2 _ A1 _ (fun _ _ _ q _ h => by cases q <;> exact h) ?_
                    clear A1 A2
                    rintro ob w6 ⟨σ6, t6⟩
                    cases ob with
                    | true =>
                      have HZ : Hid (TE w w6 q A N) := ⟨σ6, k, es, hs, _, t6.i, by omega, by omega, by omega, fun e he => by have := H0.out.2.1 e he; omega⟩
                      clear t6 H0 HT HB
                      go_wp2_with fail
                      go_meet
                      exact HZ
                    | false =>
                      have A1 := (t6.kp (Kp.drew w6)).step0 hk3 (2 * k) H0.out.2.1 hok2.1 hok2.2 hok3.1 hok3.2 _ HB.out (by omega) (by omega) (by omega)
                      have A2 := (t6.kp (Kp.drew w6)).sx0
                      clear t6
                      go_upto_region 35 with fail
                      refine reg3_35 w6 A T 0 q.X0 q.K kind nn kk ba2 bl' bc2 str' (by omega) A2 _ A1 _ (fun _ _ _ q _ h => by cases q <;> exact h) ?_
                      clear A1 A2
                      rintro w7 ⟨σ7, fs7, t7, f1, f2⟩
                      have H7 : Hid (TI w w7 σ7 q A N (k + 1) es fs7 hs true ∧ fs7.length ≤ 2 ∧ ∀ e, e ∈ fs7 → 2 * k ≤ e.o ∧ e.o < 2 * k + 2) := ⟨t7, f1, f2⟩
                      clear t7 f1 f2 H0 HT HB
                      go_wp2_with fail
                      go_meet
                      exact ⟨rfl, σ7, fs7, H7⟩
                · as_aux_lemma =>
                    have A1 := (HT.out.kp (Kp.drew W5)).much1 hok3.1 hok3.2 (by omega) (by omega)
                    have A2 := (HT.out.kp (Kp.drew W5)).sx1
                    go_upto_region 33 with fail
                    refine reg3_33 W5 A T 1 q.X1 q.K kind nn kk ba2 bl' bc2 str' (by omega) A2 _ A1 _ (fun _ _ _ q _ h => by cases q <;> exact h) ?_
                    clear A1 A2
                    rintro ob w6 ⟨σ6, t6⟩
                    cases ob with
                    | true =>
                      have HZ : Hid (TE w w6 q A N) := ⟨σ6, k, es, hs, _, t6.i, by omega, by omega, by omega, fun e he => by have := H0.out.2.1 e he; omega⟩
                      clear t6 H0 HT HB
                      go_wp2_with fail
                      go_meet
                      exact HZ
                    | false =>
                      have A1 := (t6.kp (Kp.drew w6)).step1 hk3 (2 * k) H0.out.2.1 hok2.1 hok2.2 hok3.1 hok3.2 _ HB.out (by omega) (by omega) (by omega)
                      have A2 := (t6.kp (Kp.drew w6)).sx1
                      clear t6
                      go_upto_region 35 with fail
                      refine reg3_35 w6 A T 1 q.X1 q.K kind nn kk ba2 bl' bc2 str' (by omega) A2 _ A1 _ (fun _ _ _ q _ h => by cases q <;> exact h) ?_
                      clear A1 A2
                      rintro w7 ⟨σ7, fs7, t7, f1, f2⟩
                      have H7 : Hid (TI w w7 σ7 q A N (k + 1) es fs7 hs true ∧ fs7.length ≤ 2 ∧ ∀ e, e ∈ fs7 → 2 * k ≤ e.o ∧ e.o < 2 * k + 2) := ⟨t7, f1, f2⟩
                      clear t7 f1 f2 H0 HT HB
                      go_wp2_with fail
                      go_meet
                      exact ⟨rfl, σ7, fs7, H7⟩
                · as_aux_lemma =>
                    have c0 := (cells_at HT.out.b 0).1
                    simp only [List.getElem?_toArray, List.getElem?_cons_zero] at c0
                    by_cases hk8 : kind = 8
                    · have H7 : Hid (TI w W5 σ q A N (k + 1) es [] hs true) := HT.out.i.more (by omega)
                      clear H0 HT HB
                      subst hk8
                      go_wp2_with fail
                      go_meet
                      exact ⟨rfl, σ, [], H7.out, by simp, by simp⟩
                    · have A1 := (HT.out.kp (Kp.drew W5)).reads0 (2 * k) H0.out.2.1 hok3.2
                      have A2 := (HT.out.kp (Kp.drew W5)).sy0
                      go_upto_region 37 with fail
                      clear c0
                      refine reg3_37 W5 N T 0 q.R0 q.E0 q.K kind nn kk ba2 bl' bc2 str' (by omega) A2 _ A1 _ (fun _ _ _ q _ h => by cases q <;> exact h) ?_
                      clear A1 A2
                      rintro w7 ⟨σ7, fs7, t7, f1, f2⟩
                      have H7 : Hid (TI w w7 σ7 q A N (k + 1) es fs7 hs true ∧ fs7.length ≤ 2 ∧ ∀ e, e ∈ fs7 → 2 * k ≤ e.o ∧ e.o < 2 * k + 2) := ⟨t7, f1, f2⟩
                      clear t7 f1 f2 H0 HT HB
                      go_wp2_with fail
                      go_meet
                      exact ⟨rfl, σ7, fs7, H7⟩
                · as_aux_lemma =>
                    have c0 := (cells_at HT.out.b 0).1
                    simp only [List.getElem?_toArray, List.getElem?_cons_zero] at c0
                    by_cases hk8 : kind = 8
                    · have H7 : Hid (TI w W5 σ q A N (k + 1) es [] hs true) := HT.out.i.more (by omega)
                      clear H0 HT HB
                      subst hk8
                      go_wp2_with fail
                      go_meet
                      exact ⟨rfl, σ, [], H7.out, by simp, by simp⟩
                    · have A1 := (HT.out.kp (Kp.drew W5)).reads1 (2 * k) H0.out.2.1 hok3.2
                      have A2 := (HT.out.kp (Kp.drew W5)).sy1
                      go_upto_region 37 with fail
                      clear c0
                      refine reg3_37 W5 N T 1 q.R1 q.E1 q.K kind nn kk ba2 bl' bc2 str' (by omega) A2 _ A1 _ (fun _ _ _ q _ h => by cases q <;> exact h) ?_
                      clear A1 A2
                      rintro w7 ⟨σ7, fs7, t7, f1, f2⟩
                      have H7 : Hid (TI w w7 σ7 q A N (k + 1) es fs7 hs true ∧ fs7.length ≤ 2 ∧ ∀ e, e ∈ fs7 → 2 * k ≤ e.o ∧ e.o < 2 * k + 2) := ⟨t7, f1, f2⟩
                      clear t7 f1 f2 H0 HT HB
                      go_wp2_with fail
                      go_meet
                      exact ⟨rfl, σ7, fs7, H7⟩
              case rest =>
                rename World => w7
                obtain ⟨rfl, σ7, fs7, H7⟩ := hcut
                clear H0 HT HB hpp
                have hmt : (k : Int).tmod 4 = ((k % 4 : Nat) : Int) := by rw [Int.tmod_eq_emod_of_nonneg (by omega)]; omega
                by_cases hm : k % 4 = 3
                · as_aux_lemma =>
                    have h4z : (k : Int).tmod 4 = 3 := by rw [hmt, hm]; rfl
                    clear hmt
                    have A1 := newWriter_ok 100 w7 (by omega)
                    go_wp2_with fail
                    go_at_call 6
                    refine A1.mono ?_
                    clear A1
                    rintro e wA ⟨rfl, _, kA⟩
                    have A1 := newReader_any (wA.alloc (.cells #[.int .u8 9, .int .u8 9, .int .u8 9, .int .u8 9, .int .u8 9, .int .u8 9, .int .u8 9, .int .u8 9] 5)) (some ⟨wA.heap.size, 0, none⟩) 8 8 [9, 9, 9, 9, 9, 9, 9, 9] (bs_of_block (bs := [9, 9, 9, 9, 9, 9, 9, 9]) (heap_alloc_new wA _) (by simp) (by simp))
                    have H8 : Hid (TI w (wA.alloc (.cells #[.int .u8 9, .int .u8 9, .int .u8 9, .int .u8 9, .int .u8 9, .int .u8 9, .int .u8 9, .int .u8 9] 5)) σ7 q A N (k + 1) es fs7 hs true) := H7.out.1.kp (Kp.trans kA (Kp.al _ _))
                    clear kA
                    go_upto_region 40 with fail
                    go_wp2_with (refine wpList_bslice_run rfl 22 8 _ rfl #[(0, .int .u8 9), (1, .int .u8 9), (2, .int .u8 9), (3, .int .u8 9), (4, .int .u8 9), (5, .int .u8 9), (6, .int .u8 9), (7, .int .u8 9)] (by kernel_rfl) _ (nines _) ?_)
                    go_at_call 8
                    refine A1.mono ?_
                    clear A1
                    rintro e wE ⟨_, _, _, rfl, _, kE, _, _⟩
                    have H9 : Hid (TI w wE σ7 q A N (k + 1) es fs7 hs true ∧ fs7.length ≤ 2 ∧ ∀ e, e ∈ fs7 → 2 * k ≤ e.o ∧ e.o < 2 * k + 2) := ⟨H8.out.kp kE, H7.out.2⟩
                    clear H8 kE H7
                    have n0 := (cells_at H9.out.1.hn 0).1
                    have n1 := (cells_at H9.out.1.hn 1).1
                    have n2 := (cells_at H9.out.1.hn 2).1
                    have n3 := (cells_at H9.out.1.hn 3).1
                    simp only [List.getElem?_toArray, List.getElem?_cons_zero, List.getElem?_cons_succ] at n0 n1 n2 n3
                    have A1 := H9.out.1.tw.alike0
                    go_wp2_with fail
                    go_at_call 14
                    refine A1.mono ?_
                    clear A1
                    rintro e wB ⟨rfl, kB⟩
                    have HB2 : Hid (TI w wB σ7 q A N (k + 1) es fs7 hs true) := H9.out.1.kp kB
                    have n2' := kB.cell n2
                    have n3' := kB.cell n3
                    clear n0 n1 n2 n3 kB
                    have A1 := HB2.out.tw.alike1
                    go_wp2_with fail
                    go_at_call 14
                    refine A1.mono ?_
                    clear A1
                    rintro e wC ⟨rfl, kC⟩
                    have HC2 : Hid (TI w wC σ7 q A N (k + 1) es fs7 hs true) := HB2.out.kp kC
                    clear n2' n3' kC HB2
                    have A1 := HC2.out.look (by omega)
                    clear HC2
                    go_wp2_with fail
                    go_at_call 15
                    refine A1.mono ?_
                    clear A1
                    rintro e wD ⟨rfl, σ9, es9, t9, g9⟩
                    have HD : Hid (TL w wD q A N (k + 1)) := ⟨σ9, es9, fs7, t9, by omega, H9.out.2.1, fun e he => by have := H9.out.2.2 e he; omega⟩
                    clear t9 H9
                    go_wp2_with fail
                    refine ⟨?_, ?_⟩
                    · iterate 83 apply Exists.intro
                      refine ⟨?_, rfl⟩
                      exact ⟨k + 1, by go_num, by omega, by omega, HD.out⟩
                    · simp [nI]; omega
                · as_aux_lemma =>
                    have h4z : ¬ (k : Int).tmod 4 = 3 := by rw [hmt]; omega
                    clear hmt
                    have n0 := (cells_at H7.out.1.hn 0).1
                    have n1 := (cells_at H7.out.1.hn 1).1
                    have n2 := (cells_at H7.out.1.hn 2).1
                    have n3 := (cells_at H7.out.1.hn 3).1
                    simp only [List.getElem?_toArray, List.getElem?_cons_zero, List.getElem?_cons_succ] at n0 n1 n2 n3
                    have A1 := H7.out.1.tw.alike0
                    go_wp2_with fail
                    go_at_call 14
                    refine A1.mono ?_
                    clear A1
                    rintro e wB ⟨rfl, kB⟩
                    have HB2 : Hid (TI w wB σ7 q A N (k + 1) es fs7 hs true) := H7.out.1.kp kB
                    have n2' := kB.cell n2
                    have n3' := kB.cell n3
                    clear n0 n1 n2 n3 kB
                    have A1 := HB2.out.tw.alike1
                    go_wp2_with fail
                    go_at_call 14
                    refine A1.mono ?_
                    clear A1
                    rintro e wC ⟨rfl, kC⟩
                    have HC2 : Hid (TI w wC σ7 q A N (k + 1) es fs7 hs true) := HB2.out.kp kC
                    clear n2' n3' kC HB2
                    have A1 := HC2.out.look (by omega)
                    clear HC2
                    go_wp2_with fail
                    go_at_call 15
                    refine A1.mono ?_
                    clear A1
                    rintro e wD ⟨rfl, σ9, es9, t9, g9⟩
                    have HD : Hid (TL w wD q A N (k + 1)) := ⟨σ9, es9, fs7, t9, by omega, H7.out.2.1, fun e he => by have := H7.out.2.2 e he; omega⟩
                    clear t9 H7
                    go_wp2_with fail
                    refine ⟨?_, ?_⟩
                    · iterate 83 apply Exists.intro
                      refine ⟨?_, rfl⟩
                      exact ⟨k + 1, by go_num, by omega, by omega, HD.out⟩
                    · simp [nI]; omega
            · as_aux_lemma =>
                have HZ : Hid (TE w wy q A N) := ⟨σ, k, es, hs, _, hI, by omega, by omega, by omega, fun e he => by have := l3 e he; omega⟩
                clear hI l3
                by_cases h9 : k < ts.length
                · have h1z : (k : Int) < (ts.length : Int) := by omega
                  have h2z : ¬ (k : Int) < 200 := by omega
                  go_wp2_with fail
                  go_meet
                  exact HZ
                · have h1z : ¬ (k : Int) < (ts.length : Int) := by omega
                  go_wp2_with fail
                  go_meet
                  exact HZ
      case rest =>
        as_aux_lemma =>
          rename World => wt
          have HE := hcut
          clear hcut H4
          obtain ⟨σ, k, es, hs, g, hI, b1, b2, b3, b4⟩ := HE.out
          have HI4 : Hid (TI w wt σ q A N k es [] hs g) := hI
          clear hI HE
          have hpk2 := fun wx : World => pick_any wx mu 10 (by omega) (by omega) hm1 hm2
          generalize pickN mu 10 = pm at *
          go_wp2_with fail
          go_at_call 5
          refine (hpk2 _).mono ?_
          rintro e wq ⟨rfl, hw⟩
          rw [hw]
          clear hw wq hpk2
          go_upto_if 180 with fail
          go_cut [32, 33, 34] from 178 to 221 (fun s32 s33 s34 wx => ∃ σ', Hid (TI w wx σ' q A N (k + 1) es [] hs g))
          case first =>
            as_aux_lemma =>
              by_cases h3 : pm = 3
              · have h3z : (pm : Int) = 3 := by omega
                obtain ⟨na, s0, Ta, xa, ya⟩ := TM.start HI4.out
                have hop := Ta.opn
                have hok0 := open_ops s0
                have HTa : Hid _ := Ta
                clear Ta HI4
                obtain ⟨s1, hs1⟩ : ∃ s1, s1 = s0.open.2 := ⟨_, rfl⟩
                obtain ⟨p1, hp1⟩ : ∃ p1, p1 = s0.open.1 := ⟨_, rfl⟩
                rw [← hp1] at hop
                rw [← hs1] at hok0
                have C1 : ∀ v, PW wt q.B0 q.M0 v na s0 → Calls Try.prog 16 #[.pointer (some ⟨q.B0, 0, none⟩)] wt fun r w' => r = .returned (.int .i64 p1) ∧ PwE wt w' q.B0 q.M0 v na s1 := fun v hv => by rw [hp1, hs1]; exact pOpen hv (by omega)
                have C2 : ∀ wx vb vo, VW wx q.D0 vb vo s0 → Calls Try.prog 17 #[.pointer (some ⟨q.D0, 0, none⟩)] wx fun r w' => r = .returned (.int .i64 p1) ∧ VwE wx w' q.D0 vb vo s1 := fun wx vb vo hv => by rw [hp1, hs1]; exact vOpen hv (by omega)
                have HS1 : Hid (p1 = s0.open.1 ∧ s1 = s0.open.2) := ⟨hp1, hs1⟩
                clear hp1 hs1 HS1
                have A1 := HTa.out.pcall C1
                obtain ⟨c0, c1, c2⟩ := HTa.out.cells
                go_wp2_with fail
                go_at_call 16
                refine A1.mono ?_
                clear A1 c0 c1 c2
                rintro e wb ⟨rfl, σb, nb, Tb, xb⟩
                have HTb : Hid _ := Tb
                clear Tb HTa
                have A1 := HTb.out.vcall (C2 _)
                obtain ⟨c0, c1, c2⟩ := HTb.out.cells
                go_wp2_with fail
                go_at_call 17
                refine A1.mono ?_
                clear A1 c0 c1 c2
                rintro e wc ⟨rfl, σc, Tc⟩
                have HTc : Hid _ := Tc
                clear Tc HTb
                clear C1 C2
                obtain ⟨L, hL⟩ : ∃ L : Nat, L = 2000000 := ⟨_, rfl⟩
                have hmk : ∀ wx : World, (Instr.makeSlice 22 (.int .i64 2000000) (.int .i64 2000000)).run Try.prog wx = .ok (.slice (some ⟨wx.heap.size, 0, none⟩) L L) (wx.alloc (.cells (List.replicate L (.int .u8 0)).toArray 5)) := fun wx => by have := make22 L (by omega) wx; rw [hL] at this ⊢; exact this
                have hLb : L ≤ 140737488355328 := by omega
                clear hL
                go_upto_region 50 with fail
                clear hmk
                have hbl : (wc.alloc (.cells (Array.replicate L (Value.int .u8 0)) 5)).heap[wc.heap.size]? = some (.cells ((List.replicate L (0 : Int)).map (Value.int .u8)).toArray 5 (0, 0)) := by
                  rw [heap_alloc_new, List.map_replicate, List.toArray_replicate]
                have kd := Kp.al wc (.cells (Array.replicate L (Value.int .u8 0)) 5)
                obtain ⟨wd, hwd⟩ : ∃ wd, wd = wc.alloc (.cells (Array.replicate L (Value.int .u8 0)) 5) := ⟨_, rfl⟩
                rw [← hwd] at hbl kd ⊢
                clear hwd
                have HTd : Hid _ := HTc.out.kp kd
                have hz9 : σc wc.heap.size = (0, 0) := HTc.out.fz _ (Nat.le_refl _)
                have hB := bs_of_block hbl (by simp; exact hLb) (fun n hn => by rw [List.eq_of_mem_replicate hn]; omega)
                rw [List.length_replicate] at hB
                have hGl : wc.heap.size < wd.heap.size := hp_lt hbl
                clear hbl kd HTc
                obtain ⟨G, hG⟩ : ∃ G, G = wc.heap.size := ⟨_, rfl⟩
                rw [← hG] at hB hz9 ⊢
                clear hG hGl
                obtain ⟨s2, hs2⟩ : ∃ s2, s2 = s1.raw (List.replicate L 0) := ⟨_, rfl⟩
                have hr2 : s2.ops = s1.ops := by rw [hs2]; exact raw_ops _ _
                have hGz : σc G = (0, 0) := hz9
                have HB9 : Hid (Bs wd (some ⟨G, 0, none⟩) L (List.replicate L 0)) := hB
                have C1 : ∀ v, PW wd q.B0 q.M0 v nb s1 → Calls Try.prog 18 #[.pointer (some ⟨q.B0, 0, none⟩), .slice (some ⟨G, 0, none⟩) L L] wd fun r w' => r = .returned (.tuple #[]) ∧ PwE wd w' q.B0 q.M0 v nb s2 := fun v hv => by rw [hs2]; exact pRaw hv _ _ _ _ hB
                have C2 : ∀ wx vb vo, Bs wx (some ⟨G, 0, none⟩) L (List.replicate L 0) → VW wx q.D0 vb vo s1 → Calls Try.prog 19 #[.pointer (some ⟨q.D0, 0, none⟩), .slice (some ⟨G, 0, none⟩) L L] wx fun r w' => r = .returned (.tuple #[]) ∧ VwE wx w' q.D0 vb vo s2 := fun wx vb vo hb hv => by rw [hs2]; exact vRaw hv _ _ _ _ hb
                clear hB hs2 hz9
                have A1 := HTd.out.pcallB C1 hGz HB9.out
                obtain ⟨c0, c1, c2⟩ := HTd.out.cells
                go_wp2_with fail
                go_at_call 18
                refine A1.mono ?_
                clear A1 c0 c1 c2
                rintro e we ⟨rfl, σe, ne, Te, xe, hbe⟩
                have HTe : Hid _ := Te
                have HBe : Hid _ := hbe
                clear Te HTd HB9 hbe C1
                have A1 := HTe.out.vcall (fun vb vo hv => C2 _ vb vo HBe.out hv)
                obtain ⟨c0, c1, c2⟩ := HTe.out.cells
                go_wp2_with fail
                go_at_call 19
                refine A1.mono ?_
                clear A1 c0 c1 c2
                rintro e wf ⟨rfl, σf, Tf⟩
                have hok2 := Tf.ok
                have HTf : Hid _ := Tf
                clear Tf HTe
                clear C2 HBe
                obtain ⟨s3, hs3⟩ : ∃ s3, s3 = s2.shut p1 := ⟨_, rfl⟩
                have hr3 : s3.ops.length ≤ s2.ops.length := by rw [hs3]; exact shut_ops _ _
                have hr2' : s2.ops.length = s1.ops.length := by rw [hr2]
                have C1 : ∀ v, PW wf q.B0 q.M0 v ne s2 → Calls Try.prog 20 #[.pointer (some ⟨q.B0, 0, none⟩), .int .i64 p1] wf fun r w' => r = .returned (.tuple #[]) ∧ PwE wf w' q.B0 q.M0 v ne s3 := fun v hv => by rw [hs3]; exact pShut hv p1 (by omega) (by omega)
                have C2 : ∀ wx vb vo, VW wx q.D0 vb vo s2 → Calls Try.prog 21 #[.pointer (some ⟨q.D0, 0, none⟩), .int .i64 p1] wx fun r w' => r = .returned (.tuple #[]) ∧ VwE wx w' q.D0 vb vo s3 := fun wx vb vo hv => by rw [hs3]; exact vShut hv hok2 p1 (by omega) (by omega) (by omega)
                clear hs3 hr2
                have A1 := HTf.out.pcall C1
                obtain ⟨c0, c1, c2⟩ := HTf.out.cells
                go_wp2_with fail
                go_at_call 20
                refine A1.mono ?_
                clear A1 c0 c1 c2
                rintro e wg ⟨rfl, σg, ng, Tg, xg⟩
                have HTg : Hid _ := Tg
                clear Tg HTf
                have A1 := HTg.out.vcall (C2 _)
                obtain ⟨c0, c1, c2⟩ := HTg.out.cells
                go_wp2_with fail
                go_at_call 21
                refine A1.mono ?_
                clear A1 c0 c1 c2
                rintro e wh ⟨rfl, σh, Th⟩
                have HTh : Hid _ := Th
                clear Th HTg
                clear C1 C2
                obtain ⟨σi, ti⟩ := HTh.out.back (by omega) (by omega)
                have H5 : Hid (TI w wh σi q A N (k + 1) es [] hs g) := ti
                clear ti HTh
                go_wp2_with fail
                go_meet
                exact ⟨σi, H5⟩
              · have h3z : ¬ (pm : Int) = 3 := by omega
                have H5 : Hid (TI w wt σ q A N (k + 1) es [] hs g) := HI4.out.more (by omega)
                clear HI4
                go_wp2_with fail
                go_meet
                exact ⟨σ, H5⟩
          case rest =>
            as_aux_lemma =>
              rename World => w1
              obtain ⟨σ1, H5⟩ := hcut
              clear HI4
              have A1 := (H5.out.kp (Kp.drew w1)).dn0 1000 (by simpa using b4)
              have A2 := (H5.out.kp (Kp.drew w1)).dcs0
              clear H5
              go_upto_region 54 with fail
              refine reg3_54 w1 A q.X0 q.B0 q.D0 q.K A2 _ A1 _ (fun _ _ _ q _ h => by cases q <;> exact h) ?_
              clear A1 A2
              rintro w2 ⟨σ2, fs2, t2, f1, f2⟩
              have A1 := (t2.kp (Kp.drew w2)).dn1 1002 (fun e he => by
                rcases List.mem_append.1 he with x | x
                · have := b4 e x; omega
                · have := f2 e x; omega) (by omega)
              have A2 := (t2.kp (Kp.drew w2)).dcs1
              clear t2
              go_upto_region 55 with fail
              refine reg3_55 w2 A q.X1 q.B1 q.D1 q.K A2 _ A1 _ (fun _ _ _ q _ h => by cases q <;> exact h) ?_
              clear A1 A2
              rintro w3 ⟨σ3, fs3, t3, f3⟩
              have A1 := t3.look (by omega)
              clear t3
              go_wp2_with fail
              go_at_call 15
              refine A1.mono ?_
              clear A1
              rintro e w4 ⟨rfl, σ4, es4, t4, g4⟩
              have A1 := t4.look (by omega)
              clear t4
              go_wp2_with fail
              go_at_call 15
              refine A1.mono ?_
              clear A1
              rintro e w5 ⟨rfl, σ5, es5, t5, g5⟩
              have HF : Hid (Below w.heap.size w w5) := t5.tw.bel
              clear t5
              go_wp2
              go_ret
              exact ⟨rfl, HF.out⟩
end Go.Proofs.Ytfcpkcbiinbmiab
