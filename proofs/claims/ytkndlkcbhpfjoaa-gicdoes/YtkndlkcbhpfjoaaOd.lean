import Derived.Test.YtkndlkcbhpfjoaaOg
namespace Go.Proofs.Ytkndlkcbhpfjoaa
open Go.ChangeShapes Go.WideShapes Go.ChangeAt Go.RowKit Go.Shelf
set_option linter.unusedVariables false
set_option maxHeartbeats 8000000 in
set_option maxRecDepth 10000 in
theorem does_walk (w : World) (a : Option Addr) (len cap : Nat) (Fo : Nat → Ov) (h : OpsIn w a len Fo) :
    Calls Try.prog 8 #[.slice a len cap] w fun e w' => e = .returned (.bool true) ∧ Kp w w' := by
  have H : Hid (OpsIn w a len Fo) := h
  clear h
  have hA := gnew_any w
  go_enter Try.func8, Try.ntmps8
  go_wp2_with fail
  go_at_call 23
  refine hA.mono ?_
  rintro e w1 ⟨rfl, g1, k1⟩
  clear hA
  have hB := gnew_any w1
  go_wp2_with fail
  go_at_call 23
  refine hB.mono ?_
  rintro e w2 ⟨rfl, g2, k2⟩
  clear hB
  obtain ⟨Ba, hBa⟩ : ∃ Ba, Ba = w.heap.size := ⟨_, rfl⟩
  obtain ⟨Bb, hBb⟩ : ∃ Bb, Bb = w1.heap.size := ⟨_, rfl⟩
  obtain ⟨m0, hm0⟩ : ∃ m0, m0 = w2.heap.size := ⟨_, rfl⟩
  rw [← hBa] at g1 ⊢
  rw [← hBb] at g2 ⊢
  have s1 := g1.lt
  have s2 := g2.lt
  have s3 := k2.size
  have HM : Hid (w.heap.size ≤ m0 ∧ Ba < m0 ∧ Bb < m0 ∧ Ba ≠ Bb ∧ w.heap.size ≤ Ba ∧ w.heap.size ≤ Bb) := ⟨by omega, by omega, by omega, by omega, by omega, by omega⟩
  have HI0 : Hid (FoI w w2 m0 Ba Bb (.slice none 0 0) [] ∧ m0 ≤ w2.heap.size) := ⟨⟨Kp.trans k1 k2, g1.kp k2, g2, ⟨rfl, .inl ⟨rfl, rfl⟩⟩, fun k hk => (by cases hk), fun i hi => by simp at hi⟩, by omega⟩
  clear g1 g2 k1 k2 s1 s2 s3 hBa hBb hm0
  go_wp2
  go_loopw [5, 6] (fun s5 s6 wr => ∃ (v : Value) (l : List Nat), v = s5 ∧ s6 = .int .i64 (l.length : Nat) ∧ l.length ≤ 40 ∧ Hid (FoI w wr m0 Ba Bb v l ∧ m0 ≤ wr.heap.size)) (fun _ s6 _ => 40 - (intOf s6).toNat)
  case atStart => exact ⟨_, [], rfl, rfl, by simp, HI0⟩
  case round =>
    obtain ⟨v, l, rfl, rfl, hj, HI⟩ := hrel
    clear HI0
    by_cases hlt : l.length < 40
    · have hjz : (l.length : Int) < 40 := by omega
      have hN := gnew_any wr
      go_wp2_with fail
      go_at_call 23
      refine hN.mono ?_
      rintro e w3 ⟨rfl, g3, k3⟩
      clear hN
      have hR := gRoute_all w3 wr.heap.size GS.zero g3 ((l.length : Int) % 32) (1 + (l.length : Int) % 8)
      have H3 : Hid (Kp wr w3) := k3
      clear k3 g3
      go_wp2_with fail
      go_at_call 21
      refine hR.mono ?_
      rintro e w4 ⟨rfl, g4, c4⟩
      clear hR
      have hQ := gRaise_any w4 wr.heap.size _ g4 ((l.length : Int) % 32)
      have H4 : Hid (Kp wr w4) := Chg.trans H3.out c4 (fun i hi e => by omega)
      clear c4 g4 H3
      go_wp2_with fail
      go_at_call 12
      refine hQ.mono ?_
      rintro e w5 ⟨rfl, g5, c5⟩
      clear hQ
      have eF : rsS (rtS GS.zero ((l.length : Int) % 32) (1 + (l.length : Int) % 8)) ((l.length : Int) % 32) = gF l.length := by
        unfold gF
        have e1 : ((l.length % 32 : Nat) : Int) = (l.length : Int) % 32 := by omega
        have e2 : ((1 + l.length % 8 : Nat) : Int) = 1 + (l.length : Int) % 8 := by omega
        rw [e1, e2]
      rw [eF] at g5
      have k5 : Kp wr w5 := Chg.trans H4.out c5 (fun i hi e => by omega)
      obtain ⟨v', w', hrun, ho, hc, hLoc⟩ := app_c w5 v l (Chg.owns k5 HI.out.1.ow (fun _ _ e => e)) wr.heap.size (by omega)
      have HN : Hid (FoI w w' m0 Ba Bb v' (l ++ [wr.heap.size]) ∧ m0 ≤ w'.heap.size) := by
        have s5 := k5.size
        have s6 := hc.size
        have := HI.out.2
        exact ⟨HI.out.1.app HM.out.1 HI.out.2 HM.out.2.1 HM.out.2.2.1 k5 (Nat.le_refl _) g5 ho hc hLoc, by omega⟩
      have eL : (((l ++ [wr.heap.size]).length : Nat) : Int) = (l.length : Int) + 1 := by simp
      clear H4 g5 c5 eF k5 ho hc hLoc
      generalize wr.heap.size = n at *
      generalize rsX (rtS GS.zero ((l.length : Int) % 32) (1 + (l.length : Int) % 8)) ((l.length : Int) % 32) = x1 at *
      generalize rsY ((l.length : Int) % 32) = x2 at *
      generalize rtY ((l.length : Int) % 32) (1 + (l.length : Int) % 8) = x3 at *
      go_wp2_with (at_builtin; refine wpList_append_run _ rfl (.tmp 51) (.tmp 53) 55 55 rfl _ _ v' w' rfl rfl hrun ?_)
      exact ⟨⟨v', l ++ [n], rfl, by rw [eL], by simp; omega, HN⟩, by simp [intOf]; omega⟩
    · have hjz : ¬ (l.length : Int) < 40 := by omega
      have hl40 : l.length = 40 := by omega
      have hF1 := fNew_any wr
      clear hjz hlt
      go_wp2_with fail
      go_at_call 24
      refine hF1.mono ?_
      rintro e w3 ⟨F, R, P, M, rfl, f3, k3, n3⟩
      clear hF1
      obtain ⟨w4, hw4⟩ : ∃ w4, w4 = w3.alloc (.cells #[.pointer (some ⟨Ba, 0, none⟩), .pointer (some ⟨F, 0, none⟩)] 60) := ⟨_, rfl⟩
      go_upto_region 16 with fail
      rw [← hw4]
      have H4 : Hid (w4 = w3.alloc (.cells #[.pointer (some ⟨Ba, 0, none⟩), .pointer (some ⟨F, 0, none⟩)] 60)) := hw4
      clear hw4
      have hF2 := fNew_any w4
      go_wp2_with fail
      go_at_call 24
      refine hF2.mono ?_
      rintro e w5 ⟨F', R', P', M', rfl, f5, k5, n5⟩
      clear hF2
      obtain ⟨w6, hw6⟩ : ∃ w6, w6 = w5.alloc (.cells #[.pointer (some ⟨Bb, 0, none⟩), .pointer (some ⟨F', 0, none⟩)] 60) := ⟨_, rfl⟩
      have hTw := Tw.first HM.out.1 HI.out.2 HI.out.1 HM.out.2 f3 k3 n3 H4.out f5 k5 n5 hw6
      obtain ⟨q1, hq1⟩ : ∃ q1, q1 = w3.heap.size := ⟨_, rfl⟩
      obtain ⟨q2, hq2⟩ : ∃ q2, q2 = w5.heap.size := ⟨_, rfl⟩
      rw [← hq1, ← hq2] at hTw
      rw [← hq1]
      generalize wr.heap.size = n0 at hTw
      have HT : Hid (Tw w w6 m0 n0 v l ⟨q1, Ba, F, R, P, M⟩ ⟨q2, Bb, F', R', P', M'⟩ GS.zero GS.zero) := hTw
      have hS1 := step_1x w6 q1 Ba F R P M GS.zero hTw.d oA oA_ok rfl
      clear f3 k3 n3 H4 f5 k5 n5 HI hTw hq1
      go_upto_region 17 with fail
      rw [← hw6, ← hq2]
      clear hw6 hq2
      have hbA := build40A
      have hbB := build40B
      have hbC := build40C
      go_wp2_with (refine wpList_build_run rfl 40 _ rfl #[(0, .int .i64 1), (1, .int .i64 5), (2, .int .i64 2)] (by kernel_rfl) _ (build40A _) ?_; simp only [Act.put, List.setIfInBounds_toArray, List.set_cons_zero, List.set_cons_succ])
      refine hS1.mono ?_
      rintro e w7 ⟨rfl, p7, c7⟩
      clear hS1
      have T7 : Hid (Tw w w7 m0 n0 v l ⟨q1, Ba, F, R, P, M⟩ ⟨q2, Bb, F', R', P', M'⟩ (rtS GS.zero 5 2) GS.zero) := HT.out.step p7 c7
      have hS2 := step_2x w7 q1 Ba F R P M _ T7.out.d oB oB_ok rfl
      clear p7 c7 HT
      go_wp2_with (refine gbuild_run (by rfl) 40 _ rfl #[(0, .int .i64 2), (1, .int .i64 5)] (by kernel_rfl) _ (build40B _) ?_; simp only [Act.put, List.setIfInBounds_toArray, List.set_cons_zero, List.set_cons_succ])
      refine hS2.mono ?_
      rintro e w8 ⟨rfl, p8, c8⟩
      clear hS2
      have T8 : Hid (Tw w w8 m0 n0 v l ⟨q1, Ba, F, R, P, M⟩ ⟨q2, Bb, F', R', P', M'⟩ sB GS.zero) := T7.out.step p8 c8
      have hS3 := step_4x w8 q1 Ba F R P M _ T8.out.d oC oC_ok rfl
      clear p8 c8 T7
      go_wp2_with (refine gbuild_run (by rfl) 40 _ rfl #[(0, .int .i64 4), (2, .int .i64 2)] (by kernel_rfl) _ (build40C _) ?_; simp only [Act.put, List.setIfInBounds_toArray, List.set_cons_zero, List.set_cons_succ])
      refine hS3.mono ?_
      rintro e w9 ⟨rfl, p9, c9⟩
      clear hS3
      have T9 : Hid (Tw w w9 m0 n0 v l ⟨q1, Ba, F, R, P, M⟩ ⟨q2, Bb, F', R', P', M'⟩ sB GS.zero) := T8.out.step p9 c9
      have hTk := take_any w9 Ba sB T9.out.d.g 2
      rw [sB_take.1, sB_take.2] at hTk
      have x0 : w9.cell? ⟨q1, 0, none⟩ = some (.pointer (some ⟨Ba, 0, none⟩)) := T9.out.d.c0
      clear p9 c9 T8 hbA hbB hbC
      go_wp2_with fail
      go_at_call 14
      refine hTk.mono ?_
      rintro e w10 ⟨rfl, g10, c10⟩
      clear hTk x0
      obtain ⟨-, x1, f10⟩ := T9.out.d.half g10 c10
      have x1 : w10.cell? ⟨q1, 1, none⟩ = some (.pointer (some ⟨F, 0, none⟩)) := x1
      have hTf := fTake_any w10 F R P M sB f10 T9.out.d.ok.rt 2
      have H10 : Hid (IsG w10 Ba (sB.take 2) ∧ Chg w9 w10 (fun k => k = Ba)) := ⟨g10, c10⟩
      clear g10 c10 f10
      go_wp2_with fail
      go_at_call 26
      refine hTf.mono ?_
      rintro e w11 ⟨rfl, f11, c11⟩
      clear hTf x1
      obtain ⟨i11, c12⟩ := T9.out.d.go H10.out.1 H10.out.2 f11 (c11.mono (fun k _ e => .inr (.inr (.inl e)))) (ok_take T9.out.d.ok 2)
      have HT0 : Hid (∃ D E s t, (q1 = D.q ∧ q2 = E.q) ∧ Tw w w11 m0 n0 v l D E s t) := ⟨_, _, _, _, ⟨rfl, rfl⟩, T9.out.step i11 c12⟩
      clear f11 c11 i11 c12 H10 T9
      generalize nxI (sB.wt 2) = nz at *
      generalize hq1 : q1 = qa at *
      generalize hq2 : q2 = qb at *
      clear hq1 hq2
      go_wp2
      have hlen : len < 4611686018427387904 := by have := H.out.1; omega
      clear HM
      go_loopw [8, 9, 10, 13, 14] (fun s8 s9 s10 s13 s14 wr => ∃ (j : Nat) (D E : Dat) (s t : GS), s13 = .int .i64 j ∧ s8 = .pointer (some ⟨D.q, 0, none⟩) ∧ s9 = .pointer (some ⟨E.q, 0, none⟩) ∧ j ≤ len ∧ Hid (Tw w wr m0 n0 v l D E s t)) (fun _ _ _ s13 _ _ => len - (intOf s13).toNat)
      case atStart =>
        obtain ⟨D, E, s, t, ⟨e1, e2⟩, hT⟩ := HT0.out
        exact ⟨0, D, E, s, t, rfl, by rw [e1], by rw [e2], by omega, hT⟩
      case round =>
        obtain ⟨j, D, E, s, t, rfl, rfl, rfl, hj, HT⟩ := hrel
        clear HT0
        by_cases hlt : j < len
        · have hjz : (j : Int) < (len : Int) := by omega
          have hi2 := H.out.kp HT.out.kp
          have hok := hi2.2.1 j
          rcases hi2.2.2 with h0 | ⟨b, o, rfl, hc⟩
          · omega
          · have hrg := hc j hlt
            have xk : wr.cell? ⟨b, o + j * 38, none⟩ = some (.int .i64 (Fo j).kind) := by have := hrg 0 _ rfl; simpa using this
            by_cases hk : (Fo j).kind = 11
            · rw [hk] at xk
              have HN : Hid (Tw w wr m0 n0 v l E D t s) := HT.out.swap
              clear HT hrg hc hi2 hok hk
              go_wp2
              exact ⟨⟨j + 1, E, D, t, s, by go_num, rfl, rfl, by omega, HN⟩, by simp [intOf]; omega⟩
            · have hkb : ((Fo j).kind == 11) = false := by rw [beq_eq_false_iff_ne]; exact hk
              have hS := step_any wr D.q D.B D.F D.R D.P D.M s HT.out.d (Fo j) hok
              have hsz := size40 (Fo j)
              clear hc hi2 hok hk
              generalize ocs (Fo j) = L at *
              generalize (Fo j).kind = kd at *
              go_wp2_with (refine wpList_load_mid rfl 40 (.tmp 117) rfl b (o + j * 38) rfl L _ hrg Try.underlying40 rfl hsz ?_)
              go_at_call 25
              refine hS.mono ?_
              rintro e w12 ⟨rfl, s', p', c'⟩
              have HN : Hid (Tw w w12 m0 n0 v l D E s' t) := HT.out.step p' c'
              clear hS HT p' c' hrg xk
              go_wp2
              exact ⟨⟨j + 1, D, E, s', t, by go_num, rfl, rfl, by omega, HN⟩, by simp [intOf]; omega⟩
        · have hjz : ¬ (j : Int) < (len : Int) := by omega
          clear hlt hlen hj
          go_wp2
          go_loopw [15, 16, 17, 18, 19] (fun s15 s16 s17 s18 s19 wr => ∃ z : Int, s15 = .int .i64 z ∧ -1 ≤ z ∧ z ≤ 10 ∧ Hid (Tw w wr m0 n0 v l D E s t)) (fun s15 _ _ _ _ _ => (10 - intOf s15).toNat)
          case atStart => exact ⟨-1, rfl, by omega, by omega, HT⟩
          case round =>
            obtain ⟨z, rfl, hz0, hz1, HC⟩ := hrel
            clear HT
            by_cases hz : z ≤ 9
            · have hA := told_any wr D.q D.B D.F D.R D.P D.M s HC.out.d z
              go_wp2_with fail
              go_at_call 27
              refine hA.mono ?_
              rintro e x1 ⟨rfl, y1⟩
              clear hA
              have T1 : Hid (Tw w x1 m0 n0 v l D E s t) := HC.out.kept y1
              have hA := told_any x1 E.q E.B E.F E.R E.P E.M t T1.out.e z
              clear y1 HC
              go_wp2_with fail
              go_at_call 27
              refine hA.mono ?_
              rintro e x2 ⟨rfl, y2⟩
              clear hA
              have T2 : Hid (Tw w x2 m0 n0 v l D E s t) := T1.out.kept y2
              have hA := plines_any x2 D.q D.B D.F D.R D.P D.M s T2.out.d z 1
              clear y2 T1
              go_wp2_with fail
              go_at_call 28
              refine hA.mono ?_
              rintro e x3 ⟨rfl, y3⟩
              clear hA
              have T3 : Hid (Tw w x3 m0 n0 v l D E s t) := T2.out.kept y3
              have hA := plines_any x3 E.q E.B E.F E.R E.P E.M t T3.out.e z 0
              clear y3 T2
              go_wp2_with fail
              go_at_call 28
              refine hA.mono ?_
              rintro e x4 ⟨rfl, y4⟩
              clear hA
              have T4 : Hid (Tw w x4 m0 n0 v l D E s t) := T3.out.kept y4
              clear y4 T3
              go_wp2
              exact ⟨⟨z + 1, by go_num, by omega, by omega, T4⟩, by simp [intOf]; omega⟩
            · clear hz0 hz1
              go_wp2
              have hl0 : l.length = 40 := hl40
              obtain ⟨g, cp, hv, hvo, hgl, hvc⟩ := OC.at HC.out.ow (by omega)
              rw [hl0] at hv
              subst hv
              clear hvc hgl hvo
              go_loopw [20, 21, 22] (fun s20 s21 s22 wr => ∃ i : Nat, s20 = .int .i64 i ∧ i ≤ 40 ∧ Hid (Tw w wr m0 n0 (.slice (some ⟨g, 0, none⟩) 40 cp) l D E s t)) (fun s20 _ _ _ => 40 - (intOf s20).toNat)
              case atStart => exact ⟨0, rfl, by omega, HC⟩
              case round =>
                obtain ⟨i, rfl, hi, HT⟩ := hrel
                clear HC
                by_cases hlt : i < 40
                · have hjz : (i : Int) < 40 := by omega
                  obtain ⟨g', cp', hv', -, -, hvc⟩ := OC.at HT.out.ow (by omega)
                  rw [hl0] at hv'
                  have eg : g' = g := by cases hv'; rfl
                  subst eg
                  have xc := hvc i (by omega)
                  obtain ⟨-, -, ga⟩ := HT.out.al i (by omega)
                  generalize l[i] = li at xc ga
                  have hS := state_any wr li (gF i) ga
                  rw [gF_cells i hlt] at hS
                  clear hvc hv' ga
                  go_wp2_with fail
                  go_at_call 17
                  refine hS.mono ?_
                  rintro e w5 ⟨rfl, k5⟩
                  clear hS xc
                  obtain ⟨ZZ, hZ⟩ : ∃ ZZ, ZZ = (gcs GS.zero).toArray := ⟨_, rfl⟩
                  have hz := fun w => zero38 w
                  rw [← hZ] at hz
                  have g3 : (w5.alloc (.cells ZZ 38)).heap[w5.heap.size]? = some (.cells ZZ 38 (0, 0)) := heap_alloc_new w5 _
                  have hst := store38 (w5.alloc (.cells ZZ 38)) w5.heap.size ZZ (gcs (gW i)).toArray 38 g3 (by rw [hZ]; exact gcs_size _) (gcs_size (gW i)) (by simpa using gcs_one (gW i))
                  obtain ⟨w6, hw6⟩ : ∃ w6, w6 = (w5.alloc (.cells ZZ 38)).setRow w5.heap.size (gcs (gW i)).toArray := ⟨_, rfl⟩
                  have g6 : w6.heap[w5.heap.size]? = some (.cells (gcs (gW i)).toArray 38 (0, 0)) := by rw [hw6]; exact setRow_heap _ w5.heap.size ZZ _ 38 (0, 0) g3
                  have k6 : Kp wr w6 := by rw [hw6]; exact Kp.trans k5 (Chg.setRow ((Chg.refl w5 _).alloc _) (.inr (Nat.le_refl _)) _)
                  rw [← hw6] at hst
                  obtain ⟨b6, hb6⟩ : ∃ b6, b6 = w5.heap.size := ⟨_, rfl⟩
                  rw [← hb6] at g6
                  obtain ⟨w7, hw7⟩ : ∃ w7, w7 = w6.alloc (.cells ZZ 38) := ⟨_, rfl⟩
                  obtain ⟨b7, hb7⟩ : ∃ b7, b7 = w6.heap.size := ⟨_, rfl⟩
                  have g7 : w7.heap[b7]? = some (.cells ZZ 38 (0, 0)) := by rw [hw7, hb7]; exact heap_alloc_new w6 _
                  have k7 : Kp w6 w7 := by rw [hw7]; exact (Chg.refl w6 _).alloc _
                  have hsz := size38 (gW i)
                  have HZ : Hid (ZZ = (gcs GS.zero).toArray ∧ w7.heap[b7]? = some (.cells ZZ 38 (0, 0)) ∧ w7.heap[b6]? = some (.cells (gcs (gW i)).toArray 38 (0, 0)) ∧ Tw w w7 m0 n0 (.slice (some ⟨g', 0, none⟩) 40 cp) l D E s t ∧ wr.heap.size ≤ b7 ∧ b6 < b7) := ⟨hZ, g7, k7.heap g6, HT.out.kept (Kp.trans k6 k7), by rw [hb7]; exact k6.size, by rw [hb7]; exact hp_lt g6⟩
                  have HTw : ∀ Wf, wr.heap.size ≤ b7 → Chg wr Wf (fun k => k = b7) → Tw w Wf m0 n0 (.slice (some ⟨g', 0, none⟩) 40 cp) l D E s t := fun Wf hb hc => HT.out.kept (Chg.trans (Kp.refl wr) hc (fun k hk e => by omega))
                  have HK7 : Chg wr w7 (fun k => k = b7) := (Kp.trans k6 k7).any
                  clear hZ g3 g6 k6 k5 g7 k7 HT
                  have hq := neq38 (gW i)
                  have HV : Hid (∀ W : World, W.heap[b7]? = some (.cells ZZ 38 (0, 0)) → (W.setCell ⟨b7, i % 32, none⟩ (.int .i64 (1 + (i : Int) % 8))).heap[b7]? = some (.cells (gcs (gV i)).toArray 38 (0, 0)) ∧ ((W.setCell ⟨b7, i % 32, none⟩ (.int .i64 (1 + (i : Int) % 8))).setCell ⟨b7, 32, none⟩ (.int .u32 (2 ^ (i % 32) % 4294967296))).heap[b7]? = some (.cells (gcs (gW i)).toArray 38 (0, 0))) := fun W hW => by
                    rw [HZ.out.1] at hW
                    exact ⟨want1 W b7 i hW, want2 _ b7 i (want1 W b7 i hW)⟩
                  generalize hL : gcs (gW i) = L at *
                  clear hL
                  obtain ⟨W8, hW8⟩ : ∃ W8, W8 = w7.setCell ⟨b7, i % 32, none⟩ (.int .i64 (1 + (i : Int) % 8)) := ⟨_, rfl⟩
                  obtain ⟨W9, hW9⟩ : ∃ W9, W9 = W8.setCell ⟨b7, 32, none⟩ (.int .u32 (2 ^ (i % 32) % 4294967296)) := ⟨_, rfl⟩
                  obtain ⟨v1, v2⟩ := HV.out w7 HZ.out.2.1
                  rw [← hW8] at v1 v2
                  rw [← hW9] at v2
                  have c8 : Chg w7 W8 (fun k => k = b7) := by rw [hW8]; exact Chg.setCell (S := fun k => k = b7) (Chg.refl _ _) (.inl rfl) _
                  have c9 : Chg W8 W9 (fun k => k = b7) := by rw [hW9]; exact Chg.setCell (S := fun k => k = b7) (Chg.refl _ _) (.inl rfl) _
                  have c79 : Chg w7 W9 (fun k => k = b7) := Chg.trans c8 c9 (fun _ _ e => e)
                  have v6 := c79.heap HZ.out.2.2.1 (by have := HZ.out.2.2.2.2.2; omega)
                  have y0 : w7.cell? ⟨b7, i % 32, none⟩ = some (.int .i64 (0 : Nat)) := by
                    have hl : i % 32 < 32 := by omega
                    rw [(cells_at HZ.out.2.1 (i % 32)).1, HZ.out.1, List.getElem?_toArray, gcs_rt _ _ hl]; rfl
                  have y0f : w7.frozen? ⟨b7, i % 32, none⟩ = false := (cells_at HZ.out.2.1 (i % 32)).2
                  have y1 : W8.cell? ⟨b7, 32, none⟩ = some (.int .u32 (sw (gV i).pe : Nat)) := by rw [(cells_at v1 32).1, List.getElem?_toArray, gcs_pe]
                  have y1f : W8.frozen? ⟨b7, 32, none⟩ = false := (cells_at v1 32).2
                  have hr6 : W9.rangeAt b6 0 L := fun j u hu => by rw [Nat.zero_add, (cells_at v6 j).1, List.getElem?_toArray]; exact hu
                  have hr7 : W9.rangeAt b7 0 L := fun j u hu => by rw [Nat.zero_add, (cells_at v2 j).1, List.getElem?_toArray]; exact hu
                  have HNw : Hid (Tw w W9 m0 n0 (.slice (some ⟨g', 0, none⟩) 40 cp) l D E s t) := HTw W9 HZ.out.2.2.2.2.1 (Chg.trans HK7 c79 (fun _ _ e => e))
                  generalize ((sw (gV i).pe : Nat) : Int) = ov at *
                  clear v1 v2 v6 c8 c9 c79 HV
                  go_upto_region 45 with (first | (refine wpList_alloc_zero _ rfl 38 ZZ rfl (hz _) ?_; simp only [Act.put, List.setIfInBounds_toArray, List.set_cons_zero, List.set_cons_succ]) | (refine wpList_store_row rfl 38 (.tmp 21) (.tmp 160) rfl w5.heap.size 0 L.toArray rfl rfl _ hst ?_; simp only [Act.put]))
                  rw [← hb6]
                  clear hst hb6 hw6
                  go_upto_region 46 with (refine wpList_alloc_zero _ rfl 38 ZZ rfl (hz _) ?_; simp only [Act.put, List.setIfInBounds_toArray, List.set_cons_zero, List.set_cons_succ])
                  rw [← hw7, ← hb7]
                  clear hw7 hb7 hz
                  clear HTw HK7 HZ
                  go_upto_region 47 with fail
                  rw [← hW8]
                  clear hW8 y0 y0f
                  go_upto_region 48 with fail
                  rw [← hW9]
                  clear hW9 y1 y1f
                  go_wp2_with (first | (refine wpList_load_mid rfl 38 (.tmp 21) rfl b6 0 rfl L _ hr6 Try.underlying38 rfl hsz ?_; simp only [Act.put, List.setIfInBounds_toArray, List.set_cons_zero, List.set_cons_succ]) | (refine wpList_load_mid rfl 38 (.tmp 22) rfl b7 0 rfl L _ hr7 Try.underlying38 rfl hsz ?_; simp only [Act.put, List.setIfInBounds_toArray, List.set_cons_zero, List.set_cons_succ]) | (refine wpList_binop_run rfl .neq 38 38 (.tmp 172) (.tmp 173) rfl (.agg L.toArray) (.agg L.toArray) (.bool false) rfl rfl (eqg38n _ _ _ _ _) (hq _) ?_))
                  exact ⟨⟨i + 1, by go_num, by omega, HNw⟩, by simp [intOf]; omega⟩
                · have hjz : ¬ (i : Int) < 40 := by omega
                  have hA := pstate_any wr D.q D.B D.F D.R D.P D.M s HT.out.d
                  go_wp2_with fail
                  go_at_call 29
                  refine hA.mono ?_
                  rintro e x1 ⟨rfl, y1⟩
                  clear hA
                  have T1 : Hid (Tw w x1 m0 n0 (.slice (some ⟨g, 0, none⟩) 40 cp) l D E s t) := HT.out.kept y1
                  have hA := pstate_any x1 E.q E.B E.F E.R E.P E.M t T1.out.e
                  clear y1 HT
                  go_wp2_with fail
                  go_at_call 29
                  refine hA.mono ?_
                  rintro e x2 ⟨rfl, y2⟩
                  clear hA
                  have T2 : Hid (Tw w x2 m0 n0 (.slice (some ⟨g, 0, none⟩) 40 cp) l D E s t) := T1.out.kept y2
                  clear y2 T1
                  go_wp2
                  go_ret
                  exact ⟨rfl, T2.out.kp⟩
end Go.Proofs.Ytkndlkcbhpfjoaa
