import Derived.Test.YtibpbemenjgncaaBb
namespace Go.Proofs.Ytibpbemenjgncaa
open Go.ChangeShapes Go.WideShapes Go.ChangeAt Go.RowKit
set_option linter.unusedVariables false
set_option maxHeartbeats 4000000 in
set_option maxRecDepth 20000 in
theorem deaf_walk (W : World) (n : Int) (a : Option Addr) (cap : Nat) (os : List OpV) (hO : OpsIn W a os) :
    Calls Try.prog 5 #[.int .i64 n, .slice a os.length cap] W fun e w' => e = .returned (.bool true) ∧ Kp W w' := by
  have hlen := hO.len
  have HO : Hid (OpsIn W a os) := hO
  clear hO
  go_enter Try.func5, Try.ntmps5
  go_wp2_with fail
  go_at_call 8
  refine (known_any W).mono ?_
  rintro e w1 ⟨rfl, k1⟩
  go_wp2_with fail
  go_at_call 9
  refine (made_any w1 n).mono ?_
  rintro e w2 ⟨B, rfl, hB, hP, k2⟩
  go_wp2_with fail
  go_at_call 9
  refine (made_any w2 n).mono ?_
  rintro e w3 ⟨C, rfl, hC, hQ, k3⟩
  have hBlt := hP.lt
  have KI : Hid (DfI W w3 B C (mdP n) (.slice none 0 0) (.slice none 0 0) false (.slice none 0 0) (.slice none 0 0) false) :=
    ⟨(k1.trans k2).trans k3, ⟨by have := k1.size; omega, by have := k1.size; have := k2.size; omega⟩, by omega, hP.kp k3, hQ, rfl⟩
  clear k1 k2 k3 hB hC hP hQ hBlt
  go_wp2_with fail
  go_loopw [8] (fun s8 wr => ∃ (i : Nat) (p : PS) (vl vn : Value) (sn : Bool) (ul un : Value) (sm : Bool), s8 = .int .i64 i ∧ i ≤ os.length ∧ i ≤ 200 ∧ Hid (DfI W wr B C p vl vn sn ul un sm)) (fun s8 _ => 200 - nI s8)
  case atStart => exact ⟨0, mdP n, _, _, false, _, _, false, rfl, by omega, by omega, KI⟩
  case round =>
    obtain ⟨i, p, vl, vn, sn, ul, un, sm, rfl, hi, hi2, HI⟩ := hrel
    clear KI
    by_cases hlt : i < os.length ∧ i < 200
    · have hz1 : (i : Int) < (os.length : Int) := by omega
      have hz2 : (i : Int) < 200 := by omega
      have hd := HO.out.d i hlt.1
      rcases HO.out.c with e | ⟨b, o, rfl, hcc⟩
      · rw [e] at hlt; simp at hlt
      have hr := range_kp (hcc i hlt.1) HI.out.kp
      have HD : Hid (os[i].data W) := hd
      clear hcc hd
      generalize os[i] = ov at hr HD
      obtain ⟨kd, ce, tk, v, bs, th, nt, v1, b1, t1, v2, b2, t2⟩ := ov
      obtain ⟨va, vc, hva⟩ := HD.out.b.vshape
      obtain ⟨va1, vc1, hva1⟩ := HD.out.b1.vshape
      obtain ⟨va2, vc2, hva2⟩ := HD.out.b2.vshape
      simp only at hva hva1 hva2
      subst hva hva1 hva2
      unfold opC at hr
      simp only at hr
      have r0 := hr 0 _ rfl
      have r1 := hr 1 _ rfl
      have r2 := hr 2 _ rfl
      have r3 := hr 3 _ rfl
      have r4 := hr 4 _ rfl
      have r5 := hr 5 _ rfl
      have r6 := hr 6 _ rfl
      have r7 := hr 7 _ rfl
      have r8 := hr 8 _ rfl
      have r9 := hr 9 _ rfl
      simp only [Nat.add_zero] at r0
      clear hr
      go_upto_block 2 with fail
      have hI3 := HI.out.chg (Kp.al wr (.cells #[.int .i64 kd, .int .i64 ce, .int .u64 tk, .slice va bs.length vc, .bool th, .bool nt, .slice va1 b1.length vc1, .int .u64 t1, .slice va2 b2.length vc2, .int .u64 t2] 33))
      have hD3 := HD.out.b
      have hrow := heap_alloc_new wr (.cells #[.int .i64 kd, .int .i64 ce, .int .u64 tk, .slice va bs.length vc, .bool th, .bool nt, .slice va1 b1.length vc1, .int .u64 t1, .slice va2 b2.length vc2, .int .u64 t2] 33)
      simp only at hD3
      clear r0 r1 r2 r3 r4 r5 r6 r7 r8 r9 HD HI
      generalize hN : wr.heap.size = N at *
      clear hN
      generalize wr.alloc (.cells #[.int .i64 kd, .int .i64 ce, .int .u64 tk, .slice va bs.length vc, .bool th, .bool nt, .slice va1 b1.length vc1, .int .u64 t1, .slice va2 b2.length vc2, .int .u64 t2] 33) = w4 at *
      have HI : Hid (DfI W w4 B C p vl vn sn ul un sm ∧ Bs W (.slice va bs.length vc) bs ∧ w4.heap[N]? = some (.cells #[.int .i64 kd, .int .i64 ce, .int .u64 tk, .slice va bs.length vc, .bool th, .bool nt, .slice va1 b1.length vc1, .int .u64 t1, .slice va2 b2.length vc2, .int .u64 t2] 33 (0, 0))) := ⟨hI3, hD3, hrow⟩
      clear hI3 hD3 hrow
      have q0 : w4.cell? ⟨N, 0, none⟩ = some (.int .i64 kd) := (cells_at HI.out.2.2 0).1
      have q1 : w4.cell? ⟨N, 1, none⟩ = some (.int .i64 ce) := (cells_at HI.out.2.2 1).1
      have q2 : w4.cell? ⟨N, 2, none⟩ = some (.int .u64 tk) := (cells_at HI.out.2.2 2).1
      have q3 : w4.cell? ⟨N, 3, none⟩ = some (.slice va bs.length vc) := (cells_at HI.out.2.2 3).1
      have HNB : Hid (¬ N = B) := fun e => by
        have h1 := HI.out.2.2
        have h2 := HI.out.1.x.box
        rw [e, h2] at h1
        simp at h1
      have HF : Hid (p.wr = 1) := HI.out.1.fx
      by_cases hk1 : kd = 1
      · subst hk1
        by_cases c1 : ce = 1
        · subst c1
          have gg : ((1 : Int) != 1) = false := by simp
          go_wp2_with fail
          go_at_call 10
          refine (write_any w4 B vl vn p sn HI.out.1.x 1 tk _ bs (HI.out.2.1.kp HI.out.1.kp)).mono ?_
          rintro e w5 ⟨rfl, vn', hP, hC, _⟩
          have y1 := hC.cell' HNB.out q1
          have y2 := hC.cell' HNB.out q2
          have y3 := hC.cell' HNB.out q3
          have hQ := HI.out.1.y.other hC HI.out.1.x.box HI.out.1.ne
          clear q0 q1 q2 q3
          go_wp2_with fail
          go_at_call 10
          refine (write_any w5 C ul un p sm hQ 1 tk _ bs (HI.out.2.1.kp (HI.out.1.kpB hC))).mono ?_
          rintro e w6 ⟨rfl, un', hP2, hC2, _⟩
          have HK : Hid (DfI W w6 B C (p.write 1 tk bs) vl vn' sn ul un' sm) := HI.out.1.both (by rw [write_wr]; exact HF.out) hP hC hP2 hC2
          generalize p.wE 1 bs.length = we at *
          have gw : (we != we) = false := by simp
          clear HI hP hC hQ hP2 hC2 y1 y2 y3 HF
          go_wp2_with fail
          exact ⟨⟨i + 1, _, _, _, _, _, _, _, by go_num, by omega, by omega, HK⟩, by simp [nI]; omega⟩
        · have gg : (ce != 1) = true := by simp [c1]
          have hE : p.wE ce bs.length ≠ 0 := fun h => c1 (by rw [(wE_ok.1 h).1, HF.out])
          clear c1
          go_wp2_with fail
          go_at_call 10
          refine (write_no w4 B vl vn p sn HI.out.1.x ce tk _ bs (HI.out.2.1.kp HI.out.1.kp) hE).mono ?_
          rintro e w5 ⟨rfl, k5⟩
          have HK : Hid (DfI W w5 B C p vl vn sn ul un sm) := HI.out.1.chg k5
          clear HI k5 q0 q1 q2 q3 HF hE
          go_wp2_with fail
          exact ⟨⟨i + 1, _, _, _, _, _, _, _, by go_num, by omega, by omega, HK⟩, by simp [nI]; omega⟩
      · have g1 : (kd == 1) = false := by simp [hk1]
        by_cases hk3 : kd = 3
        · subst hk3
          by_cases c1 : ce = 1
          · subst c1
            have gg : ((1 : Int) != 1) = false := by simp
            go_wp2_with fail
            go_at_call 11
            refine (turn_any w4 B vl vn p sn HI.out.1.x 1).mono ?_
            rintro e w5 ⟨rfl, vl', vn', sn', hP, hC, _⟩
            have y1 := hC.cell' HNB.out q1
            have hQ := HI.out.1.y.other hC HI.out.1.x.box HI.out.1.ne
            clear q0 q1 q2 q3
            go_wp2_with fail
            go_at_call 11
            refine (turn_any w5 C ul un p sm hQ 1).mono ?_
            rintro e w6 ⟨rfl, ul', un', sm', hP2, hC2, _⟩
            have HK : Hid (DfI W w6 B C (p.turn 1) vl' vn' sn' ul' un' sm') := HI.out.1.both (by rw [turn_wr]; exact HF.out) hP hC hP2 hC2
            generalize p.tN 1 = we at *
            have gw : ((we : Int) != (we : Int)) = false := by simp
            clear HI hP hC hQ hP2 hC2 y1 HF
            go_wp2_with fail
            exact ⟨⟨i + 1, _, _, _, _, _, _, _, by go_num, by omega, by omega, HK⟩, by simp [nI]; omega⟩
          · have gg : (ce != 1) = true := by simp [c1]
            have hT : p.tn ce = false := by simp [PS.tn, HF.out, c1]
            clear c1
            go_wp2_with fail
            go_at_call 11
            refine (turn_no w4 B vl vn p sn HI.out.1.x ce hT).mono ?_
            rintro e w5 ⟨rfl, k5⟩
            have HK : Hid (DfI W w5 B C p vl vn sn ul un sm) := HI.out.1.chg k5
            clear HI k5 q0 q1 q2 q3 HF hT
            go_wp2_with fail
            exact ⟨⟨i + 1, _, _, _, _, _, _, _, by go_num, by omega, by omega, HK⟩, by simp [nI]; omega⟩
        · have g3 : (kd == 3) = false := by simp [hk3]
          by_cases hk2 : kd = 2
          · subst hk2
            go_wp2_with fail
            go_at_call 12
            refine (read_any w4 B vl vn p sn HI.out.1.x ce).mono ?_
            rintro e w5 ⟨v5, rfl, _, k5, _⟩
            have HK : Hid (DfI W w5 B C p vl vn sn ul un sm) := HI.out.1.chg k5
            clear HI k5 q0 q1 q2 q3 HF
            go_wp2_with fail
            exact ⟨⟨i + 1, _, _, _, _, _, _, _, by go_num, by omega, by omega, HK⟩, by simp [nI]; omega⟩
          · have g2 : (kd == 2) = false := by simp [hk2]
            by_cases hk4 : kd = 4
            · subst hk4
              go_wp2_with fail
              go_at_call 17
              refine (state_any w4 B vl vn p sn HI.out.1.x).mono ?_
              rintro e w5 ⟨v5, u5, rfl, _, _, k5, _⟩
              have HK : Hid (DfI W w5 B C p vl vn sn ul un sm) := HI.out.1.chg k5
              clear HI k5 q0 q1 q2 q3 HF
              go_wp2_with fail
              exact ⟨⟨i + 1, _, _, _, _, _, _, _, by go_num, by omega, by omega, HK⟩, by simp [nI]; omega⟩
            · have g4 : (kd == 4) = false := by simp [hk4]
              have HK : Hid (DfI W w4 B C p vl vn sn ul un sm) := HI.out.1
              clear HI HF
              go_wp2_with fail
              exact ⟨⟨i + 1, _, _, _, _, _, _, _, by go_num, by omega, by omega, HK⟩, by simp [nI]; omega⟩
    · have HE : (i : Int) < (os.length : Int) ∧ ¬ (i : Int) < 200 ∨ ¬ (i : Int) < (os.length : Int) := by
        by_cases h1 : i < os.length
        · left; exact ⟨by omega, fun h => hlt ⟨h1, by omega⟩⟩
        · right; omega
      rcases HE with ⟨e1, e2⟩ | e1
      · go_wp2_with fail
        go_at_call 17
        refine (state_any wr B vl vn p sn HI.out.x).mono ?_
        rintro e w5 ⟨v5, u5, rfl, o5, o6, k5, _⟩
        obtain ⟨a5, c5, rfl⟩ := o5.shape
        obtain ⟨a6, c6, rfl⟩ := o6.shape
        have R5 := heap_alloc_new w5 (.cells #[.bool p.la.th, .bool p.ne.th, .slice a5 p.la.bs.length c5, .int .u64 p.la.tk, .slice a6 p.ne.bs.length c6, .int .u64 p.ne.tk] 31)
        have HK5 : Hid (DfI W (w5.alloc (.cells #[.bool p.la.th, .bool p.ne.th, .slice a5 p.la.bs.length c5, .int .u64 p.la.tk, .slice a6 p.ne.bs.length c6, .int .u64 p.ne.tk] 31)) B C p vl vn sn ul un sm ∧ OB (w5.alloc (.cells #[.bool p.la.th, .bool p.ne.th, .slice a5 p.la.bs.length c5, .int .u64 p.la.tk, .slice a6 p.ne.bs.length c6, .int .u64 p.ne.tk] 31)) (.slice a5 p.la.bs.length c5) p.la.bs ∧ OB (w5.alloc (.cells #[.bool p.la.th, .bool p.ne.th, .slice a5 p.la.bs.length c5, .int .u64 p.la.tk, .slice a6 p.ne.bs.length c6, .int .u64 p.ne.tk] 31)) (.slice a6 p.ne.bs.length c6) p.ne.bs ∧ (w5.alloc (.cells #[.bool p.la.th, .bool p.ne.th, .slice a5 p.la.bs.length c5, .int .u64 p.la.tk, .slice a6 p.ne.bs.length c6, .int .u64 p.ne.tk] 31)).heap[w5.heap.size]? = some (.cells #[.bool p.la.th, .bool p.ne.th, .slice a5 p.la.bs.length c5, .int .u64 p.la.tk, .slice a6 p.ne.bs.length c6, .int .u64 p.ne.tk] 31 (0, 0))) :=
          ⟨HI.out.chg (k5.trans (Kp.al _ _)), Chg.owns (Kp.al _ _) o5 (fun _ _ h => h), Chg.owns (Kp.al _ _) o6 (fun _ _ h => h), R5⟩
        clear o5 o6 k5 R5 HI
        go_upto_region 30 with fail
        generalize w5.heap.size = N5 at *
        generalize w5.alloc (.cells #[.bool p.la.th, .bool p.ne.th, .slice a5 p.la.bs.length c5, .int .u64 p.la.tk, .slice a6 p.ne.bs.length c6, .int .u64 p.ne.tk] 31) = w6 at *
        go_wp2_with fail
        go_at_call 17
        refine (state_any w6 C ul un p sm HK5.out.1.y).mono ?_
        rintro e w7 ⟨v7, u7', rfl, o7, o8, k7, _⟩
        obtain ⟨a7, c7, rfl⟩ := o7.shape
        obtain ⟨a8, c8, rfl⟩ := o8.shape
        have R7 := heap_alloc_new w7 (.cells #[.bool p.la.th, .bool p.ne.th, .slice a7 p.la.bs.length c7, .int .u64 p.la.tk, .slice a8 p.ne.bs.length c8, .int .u64 p.ne.tk] 31)
        obtain ⟨h1, h2, h3, h4⟩ := HK5.out
        have R5 := al_old (.cells #[.bool p.la.th, .bool p.ne.th, .slice a7 p.la.bs.length c7, .int .u64 p.la.tk, .slice a8 p.ne.bs.length c8, .int .u64 p.ne.tk] 31) (k7.heap h4)
        have HK7 : Hid (DfI W (w7.alloc (.cells #[.bool p.la.th, .bool p.ne.th, .slice a7 p.la.bs.length c7, .int .u64 p.la.tk, .slice a8 p.ne.bs.length c8, .int .u64 p.ne.tk] 31)) B C p vl vn sn ul un sm ∧ OB (w7.alloc (.cells #[.bool p.la.th, .bool p.ne.th, .slice a7 p.la.bs.length c7, .int .u64 p.la.tk, .slice a8 p.ne.bs.length c8, .int .u64 p.ne.tk] 31)) (.slice a5 p.la.bs.length c5) p.la.bs ∧ OB (w7.alloc (.cells #[.bool p.la.th, .bool p.ne.th, .slice a7 p.la.bs.length c7, .int .u64 p.la.tk, .slice a8 p.ne.bs.length c8, .int .u64 p.ne.tk] 31)) (.slice a6 p.ne.bs.length c6) p.ne.bs ∧ OB (w7.alloc (.cells #[.bool p.la.th, .bool p.ne.th, .slice a7 p.la.bs.length c7, .int .u64 p.la.tk, .slice a8 p.ne.bs.length c8, .int .u64 p.ne.tk] 31)) (.slice a7 p.la.bs.length c7) p.la.bs ∧ OB (w7.alloc (.cells #[.bool p.la.th, .bool p.ne.th, .slice a7 p.la.bs.length c7, .int .u64 p.la.tk, .slice a8 p.ne.bs.length c8, .int .u64 p.ne.tk] 31)) (.slice a8 p.ne.bs.length c8) p.ne.bs ∧ (w7.alloc (.cells #[.bool p.la.th, .bool p.ne.th, .slice a7 p.la.bs.length c7, .int .u64 p.la.tk, .slice a8 p.ne.bs.length c8, .int .u64 p.ne.tk] 31)).heap[w7.heap.size]? = some (.cells #[.bool p.la.th, .bool p.ne.th, .slice a7 p.la.bs.length c7, .int .u64 p.la.tk, .slice a8 p.ne.bs.length c8, .int .u64 p.ne.tk] 31 (0, 0)) ∧ (w7.alloc (.cells #[.bool p.la.th, .bool p.ne.th, .slice a7 p.la.bs.length c7, .int .u64 p.la.tk, .slice a8 p.ne.bs.length c8, .int .u64 p.ne.tk] 31)).heap[N5]? = some (.cells #[.bool p.la.th, .bool p.ne.th, .slice a5 p.la.bs.length c5, .int .u64 p.la.tk, .slice a6 p.ne.bs.length c6, .int .u64 p.ne.tk] 31 (0, 0))) :=
          ⟨h1.chg (k7.trans (Kp.al _ _)), Chg.owns (k7.trans (Kp.al _ _)) h2 (fun _ _ h => h), Chg.owns (k7.trans (Kp.al _ _)) h3 (fun _ _ h => h), Chg.owns (Kp.al _ _) o7 (fun _ _ h => h), Chg.owns (Kp.al _ _) o8 (fun _ _ h => h), R7, R5⟩
        clear h1 h2 h3 h4 o7 o8 k7 R7 R5 HK5
        go_upto_region 31 with fail
        generalize w7.heap.size = N7 at *
        generalize w7.alloc (.cells #[.bool p.la.th, .bool p.ne.th, .slice a7 p.la.bs.length c7, .int .u64 p.la.tk, .slice a8 p.ne.bs.length c8, .int .u64 p.ne.tk] 31) = w8 at *
        obtain ⟨h1, h2, h3, h4, h5, R7, R5⟩ := HK7.out
        have x0 : w8.cell? ⟨N5, 0, none⟩ = some (.bool p.la.th) := (cells_at R5 0).1
        have x1 : w8.cell? ⟨N5, 1, none⟩ = some (.bool p.ne.th) := (cells_at R5 1).1
        have x2 : w8.cell? ⟨N5, 2, none⟩ = some (.slice a5 p.la.bs.length c5) := (cells_at R5 2).1
        have x3 : w8.cell? ⟨N5, 3, none⟩ = some (.int .u64 p.la.tk) := (cells_at R5 3).1
        have x4 : w8.cell? ⟨N5, 4, none⟩ = some (.slice a6 p.ne.bs.length c6) := (cells_at R5 4).1
        have x5 : w8.cell? ⟨N5, 5, none⟩ = some (.int .u64 p.ne.tk) := (cells_at R5 5).1
        have y0 : w8.cell? ⟨N7, 0, none⟩ = some (.bool p.la.th) := (cells_at R7 0).1
        have y1 : w8.cell? ⟨N7, 1, none⟩ = some (.bool p.ne.th) := (cells_at R7 1).1
        have y2 : w8.cell? ⟨N7, 2, none⟩ = some (.slice a7 p.la.bs.length c7) := (cells_at R7 2).1
        have y3 : w8.cell? ⟨N7, 3, none⟩ = some (.int .u64 p.la.tk) := (cells_at R7 3).1
        have y4 : w8.cell? ⟨N7, 4, none⟩ = some (.slice a8 p.ne.bs.length c8) := (cells_at R7 4).1
        have y5 : w8.cell? ⟨N7, 5, none⟩ = some (.int .u64 p.ne.tk) := (cells_at R7 5).1
        have l1 : p.la.bs.length ≤ 140737488351232 := by have := h1.x.lo.l; have := h1.x.sz; omega
        have l2 : p.ne.bs.length ≤ 140737488351232 := by have := h1.x.no.l; have := h1.x.sz; omega
        have hS := sameState_eq w8 p.la.th p.ne.th p.la.bs p.ne.bs p.la.tk p.ne.tk _ _ _ _ (h2.bs l1) (h3.bs l2) (h4.bs l1) (h5.bs l2)
        clear h1 h2 h3 h4 h5 R5 R7 l1 l2
        go_wp2_with fail
        go_at_call 18
        refine hS.mono ?_
        rintro e w9 ⟨rfl, k9⟩
        have HK9 : Hid (Kp W w9) := HK7.out.1.kp.trans k9
        clear hS k9 HK7 x0 x1 x2 x3 x4 x5 y0 y1 y2 y3 y4 y5
        go_wp2_with fail
        go_ret
        exact ⟨rfl, HK9.out⟩
      · go_wp2_with fail
        go_at_call 17
        refine (state_any wr B vl vn p sn HI.out.x).mono ?_
        rintro e w5 ⟨v5, u5, rfl, o5, o6, k5, _⟩
        obtain ⟨a5, c5, rfl⟩ := o5.shape
        obtain ⟨a6, c6, rfl⟩ := o6.shape
        have R5 := heap_alloc_new w5 (.cells #[.bool p.la.th, .bool p.ne.th, .slice a5 p.la.bs.length c5, .int .u64 p.la.tk, .slice a6 p.ne.bs.length c6, .int .u64 p.ne.tk] 31)
        have HK5 : Hid (DfI W (w5.alloc (.cells #[.bool p.la.th, .bool p.ne.th, .slice a5 p.la.bs.length c5, .int .u64 p.la.tk, .slice a6 p.ne.bs.length c6, .int .u64 p.ne.tk] 31)) B C p vl vn sn ul un sm ∧ OB (w5.alloc (.cells #[.bool p.la.th, .bool p.ne.th, .slice a5 p.la.bs.length c5, .int .u64 p.la.tk, .slice a6 p.ne.bs.length c6, .int .u64 p.ne.tk] 31)) (.slice a5 p.la.bs.length c5) p.la.bs ∧ OB (w5.alloc (.cells #[.bool p.la.th, .bool p.ne.th, .slice a5 p.la.bs.length c5, .int .u64 p.la.tk, .slice a6 p.ne.bs.length c6, .int .u64 p.ne.tk] 31)) (.slice a6 p.ne.bs.length c6) p.ne.bs ∧ (w5.alloc (.cells #[.bool p.la.th, .bool p.ne.th, .slice a5 p.la.bs.length c5, .int .u64 p.la.tk, .slice a6 p.ne.bs.length c6, .int .u64 p.ne.tk] 31)).heap[w5.heap.size]? = some (.cells #[.bool p.la.th, .bool p.ne.th, .slice a5 p.la.bs.length c5, .int .u64 p.la.tk, .slice a6 p.ne.bs.length c6, .int .u64 p.ne.tk] 31 (0, 0))) :=
          ⟨HI.out.chg (k5.trans (Kp.al _ _)), Chg.owns (Kp.al _ _) o5 (fun _ _ h => h), Chg.owns (Kp.al _ _) o6 (fun _ _ h => h), R5⟩
        clear o5 o6 k5 R5 HI
        go_upto_region 30 with fail
        generalize w5.heap.size = N5 at *
        generalize w5.alloc (.cells #[.bool p.la.th, .bool p.ne.th, .slice a5 p.la.bs.length c5, .int .u64 p.la.tk, .slice a6 p.ne.bs.length c6, .int .u64 p.ne.tk] 31) = w6 at *
        go_wp2_with fail
        go_at_call 17
        refine (state_any w6 C ul un p sm HK5.out.1.y).mono ?_
        rintro e w7 ⟨v7, u7', rfl, o7, o8, k7, _⟩
        obtain ⟨a7, c7, rfl⟩ := o7.shape
        obtain ⟨a8, c8, rfl⟩ := o8.shape
        have R7 := heap_alloc_new w7 (.cells #[.bool p.la.th, .bool p.ne.th, .slice a7 p.la.bs.length c7, .int .u64 p.la.tk, .slice a8 p.ne.bs.length c8, .int .u64 p.ne.tk] 31)
        obtain ⟨h1, h2, h3, h4⟩ := HK5.out
        have R5 := al_old (.cells #[.bool p.la.th, .bool p.ne.th, .slice a7 p.la.bs.length c7, .int .u64 p.la.tk, .slice a8 p.ne.bs.length c8, .int .u64 p.ne.tk] 31) (k7.heap h4)
        have HK7 : Hid (DfI W (w7.alloc (.cells #[.bool p.la.th, .bool p.ne.th, .slice a7 p.la.bs.length c7, .int .u64 p.la.tk, .slice a8 p.ne.bs.length c8, .int .u64 p.ne.tk] 31)) B C p vl vn sn ul un sm ∧ OB (w7.alloc (.cells #[.bool p.la.th, .bool p.ne.th, .slice a7 p.la.bs.length c7, .int .u64 p.la.tk, .slice a8 p.ne.bs.length c8, .int .u64 p.ne.tk] 31)) (.slice a5 p.la.bs.length c5) p.la.bs ∧ OB (w7.alloc (.cells #[.bool p.la.th, .bool p.ne.th, .slice a7 p.la.bs.length c7, .int .u64 p.la.tk, .slice a8 p.ne.bs.length c8, .int .u64 p.ne.tk] 31)) (.slice a6 p.ne.bs.length c6) p.ne.bs ∧ OB (w7.alloc (.cells #[.bool p.la.th, .bool p.ne.th, .slice a7 p.la.bs.length c7, .int .u64 p.la.tk, .slice a8 p.ne.bs.length c8, .int .u64 p.ne.tk] 31)) (.slice a7 p.la.bs.length c7) p.la.bs ∧ OB (w7.alloc (.cells #[.bool p.la.th, .bool p.ne.th, .slice a7 p.la.bs.length c7, .int .u64 p.la.tk, .slice a8 p.ne.bs.length c8, .int .u64 p.ne.tk] 31)) (.slice a8 p.ne.bs.length c8) p.ne.bs ∧ (w7.alloc (.cells #[.bool p.la.th, .bool p.ne.th, .slice a7 p.la.bs.length c7, .int .u64 p.la.tk, .slice a8 p.ne.bs.length c8, .int .u64 p.ne.tk] 31)).heap[w7.heap.size]? = some (.cells #[.bool p.la.th, .bool p.ne.th, .slice a7 p.la.bs.length c7, .int .u64 p.la.tk, .slice a8 p.ne.bs.length c8, .int .u64 p.ne.tk] 31 (0, 0)) ∧ (w7.alloc (.cells #[.bool p.la.th, .bool p.ne.th, .slice a7 p.la.bs.length c7, .int .u64 p.la.tk, .slice a8 p.ne.bs.length c8, .int .u64 p.ne.tk] 31)).heap[N5]? = some (.cells #[.bool p.la.th, .bool p.ne.th, .slice a5 p.la.bs.length c5, .int .u64 p.la.tk, .slice a6 p.ne.bs.length c6, .int .u64 p.ne.tk] 31 (0, 0))) :=
          ⟨h1.chg (k7.trans (Kp.al _ _)), Chg.owns (k7.trans (Kp.al _ _)) h2 (fun _ _ h => h), Chg.owns (k7.trans (Kp.al _ _)) h3 (fun _ _ h => h), Chg.owns (Kp.al _ _) o7 (fun _ _ h => h), Chg.owns (Kp.al _ _) o8 (fun _ _ h => h), R7, R5⟩
        clear h1 h2 h3 h4 o7 o8 k7 R7 R5 HK5
        go_upto_region 31 with fail
        generalize w7.heap.size = N7 at *
        generalize w7.alloc (.cells #[.bool p.la.th, .bool p.ne.th, .slice a7 p.la.bs.length c7, .int .u64 p.la.tk, .slice a8 p.ne.bs.length c8, .int .u64 p.ne.tk] 31) = w8 at *
        obtain ⟨h1, h2, h3, h4, h5, R7, R5⟩ := HK7.out
        have x0 : w8.cell? ⟨N5, 0, none⟩ = some (.bool p.la.th) := (cells_at R5 0).1
        have x1 : w8.cell? ⟨N5, 1, none⟩ = some (.bool p.ne.th) := (cells_at R5 1).1
        have x2 : w8.cell? ⟨N5, 2, none⟩ = some (.slice a5 p.la.bs.length c5) := (cells_at R5 2).1
        have x3 : w8.cell? ⟨N5, 3, none⟩ = some (.int .u64 p.la.tk) := (cells_at R5 3).1
        have x4 : w8.cell? ⟨N5, 4, none⟩ = some (.slice a6 p.ne.bs.length c6) := (cells_at R5 4).1
        have x5 : w8.cell? ⟨N5, 5, none⟩ = some (.int .u64 p.ne.tk) := (cells_at R5 5).1
        have y0 : w8.cell? ⟨N7, 0, none⟩ = some (.bool p.la.th) := (cells_at R7 0).1
        have y1 : w8.cell? ⟨N7, 1, none⟩ = some (.bool p.ne.th) := (cells_at R7 1).1
        have y2 : w8.cell? ⟨N7, 2, none⟩ = some (.slice a7 p.la.bs.length c7) := (cells_at R7 2).1
        have y3 : w8.cell? ⟨N7, 3, none⟩ = some (.int .u64 p.la.tk) := (cells_at R7 3).1
        have y4 : w8.cell? ⟨N7, 4, none⟩ = some (.slice a8 p.ne.bs.length c8) := (cells_at R7 4).1
        have y5 : w8.cell? ⟨N7, 5, none⟩ = some (.int .u64 p.ne.tk) := (cells_at R7 5).1
        have l1 : p.la.bs.length ≤ 140737488351232 := by have := h1.x.lo.l; have := h1.x.sz; omega
        have l2 : p.ne.bs.length ≤ 140737488351232 := by have := h1.x.no.l; have := h1.x.sz; omega
        have hS := sameState_eq w8 p.la.th p.ne.th p.la.bs p.ne.bs p.la.tk p.ne.tk _ _ _ _ (h2.bs l1) (h3.bs l2) (h4.bs l1) (h5.bs l2)
        clear h1 h2 h3 h4 h5 R5 R7 l1 l2
        go_wp2_with fail
        go_at_call 18
        refine hS.mono ?_
        rintro e w9 ⟨rfl, k9⟩
        have HK9 : Hid (Kp W w9) := HK7.out.1.kp.trans k9
        clear hS k9 HK7 x0 x1 x2 x3 x4 x5 y0 y1 y2 y3 y4 y5
        go_wp2_with fail
        go_ret
        exact ⟨rfl, HK9.out⟩
end Go.Proofs.Ytibpbemenjgncaa
