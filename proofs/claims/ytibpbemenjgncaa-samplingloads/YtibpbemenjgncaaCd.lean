import Derived.Test.YtibpbemenjgncaaCc
namespace Go.Proofs.Ytibpbemenjgncaa
open Go.ChangeShapes Go.WideShapes Go.ChangeAt Go.RowKit
set_option linter.unusedVariables false
set_option maxHeartbeats 8000000 in
set_option maxRecDepth 20000 in
theorem loads_walk (W : World) (n : Int) (a : Option Addr) (cap : Nat) (os : List OpV) (hO : OpsIn W a os) (a' : Option Addr) (cap' : Nat) (os' : List OpV) (hO' : OpsIn W a' os') :
    Calls Try.prog 6 #[.int .i64 n, .slice a os.length cap, .slice a' os'.length cap'] W fun e w' => e = .returned (.bool true) ∧ Kp W w' := by
  have hlen := hO.len
  have hlen' := hO'.len
  have HO : Hid (OpsIn W a os) := hO
  have HO' : Hid (OpsIn W a' os') := hO'
  clear hO hO'
  go_enter Try.func6, Try.ntmps6
  go_wp2_with fail
  go_at_call 8
  refine (known_any W).mono ?_
  rintro e w1 ⟨rfl, k1⟩
  go_wp2_with fail
  go_at_call 9
  refine (made_any w1 n).mono ?_
  rintro e w2 ⟨B, rfl, hB, hP, k2⟩
  go_wp2_with fail
  go_at_call 9
  refine (made_any w2 n).mono ?_
  rintro e w3 ⟨C, rfl, hC, hQ, k3⟩
  have hBlt := hP.lt
  have KI : Hid (TwI W w3 B C (mdP n) (mdP n) (.slice none 0 0) (.slice none 0 0) false (.slice none 0 0) (.slice none 0 0) false) :=
    ⟨(k1.trans k2).trans k3, ⟨by have := k1.size; omega, by have := k1.size; have := k2.size; omega⟩, by omega, hP.kp k3, hQ, rfl, rfl, rfl, rfl, mdP_rd n⟩
  clear k1 k2 k3 hB hC hP hQ hBlt
  go_upto_block 0 with fail
  go_cut [10] from 48 to 87 (fun s10 wx => ∃ (p q : PS) (vl vn : Value) (sn : Bool) (ul un : Value) (sm : Bool), Hid (TwI W wx B C p q vl vn sn ul un sm))
  case first =>
    go_wp2_with fail
    go_loopw [10] (fun s10 wr => ∃ (i : Nat) (p q : PS) (vl vn : Value) (sn : Bool) (ul un : Value) (sm : Bool), s10 = .int .i64 i ∧ i ≤ os.length ∧ i ≤ 100 ∧ Hid (TwI W wr B C p q vl vn sn ul un sm)) (fun s10 _ => 100 - nI s10)
    case atStart => exact ⟨0, mdP n, mdP n, _, _, false, _, _, false, rfl, by omega, by omega, KI⟩
    case round =>
      obtain ⟨i, p, q, vl, vn, sn, ul, un, sm, rfl, hi, hi2, HI⟩ := hrel
      clear KI HO'
      by_cases hlt : i < os.length ∧ i < 100
      · have hz1 : (i : Int) < (os.length : Int) := by omega
        have hz2 : (i : Int) < 100 := by omega
        have hd := HO.out.d i hlt.1
        rcases HO.out.c with e | ⟨b, o, rfl, hcc⟩
        · rw [e] at hlt; simp at hlt
        have hr := range_kp (hcc i hlt.1) HI.out.kp
        have HD : Hid (os[i].data W) := hd
        clear hcc hd
        generalize os[i] = ov at hr HD
        obtain ⟨kd, ce, tk, v, bs, th, nt, v1, b1, t1, v2, b2, t2⟩ := ov
        obtain ⟨va, vc, hva⟩ := HD.out.b.vshape
        obtain ⟨va1, vc1, hva1⟩ := HD.out.b1.vshape
        obtain ⟨va2, vc2, hva2⟩ := HD.out.b2.vshape
        simp only at hva hva1 hva2
        subst hva hva1 hva2
        unfold opC at hr
        simp only at hr
        have r0 := hr 0 _ rfl
        have r1 := hr 1 _ rfl
        have r2 := hr 2 _ rfl
        have r3 := hr 3 _ rfl
        have r4 := hr 4 _ rfl
        have r5 := hr 5 _ rfl
        have r6 := hr 6 _ rfl
        have r7 := hr 7 _ rfl
        have r8 := hr 8 _ rfl
        have r9 := hr 9 _ rfl
        simp only [Nat.add_zero] at r0
        clear hr
        go_upto_region 10 with fail
        have hI3 := HI.out.chg (Kp.al wr (.cells #[.int .i64 kd, .int .i64 ce, .int .u64 tk, .slice va bs.length vc, .bool th, .bool nt, .slice va1 b1.length vc1, .int .u64 t1, .slice va2 b2.length vc2, .int .u64 t2] 33))
        have hD3 := HD.out.b
        have hrow := heap_alloc_new wr (.cells #[.int .i64 kd, .int .i64 ce, .int .u64 tk, .slice va bs.length vc, .bool th, .bool nt, .slice va1 b1.length vc1, .int .u64 t1, .slice va2 b2.length vc2, .int .u64 t2] 33)
        simp only at hD3
        clear r0 r1 r2 r3 r4 r5 r6 r7 r8 r9 HD HI
        generalize hN : wr.heap.size = N at *
        clear hN
        generalize wr.alloc (.cells #[.int .i64 kd, .int .i64 ce, .int .u64 tk, .slice va bs.length vc, .bool th, .bool nt, .slice va1 b1.length vc1, .int .u64 t1, .slice va2 b2.length vc2, .int .u64 t2] 33) = w4 at *
        have HI : Hid (TwI W w4 B C p q vl vn sn ul un sm ∧ Bs W (.slice va bs.length vc) bs) := ⟨hI3, hD3⟩
        have HN : Hid (∀ w' : World, Chg w4 w' (fun k => k = B ∨ k = C) → w'.cell? ⟨N, 0, none⟩ = some (.int .i64 kd) ∧ w'.cell? ⟨N, 1, none⟩ = some (.int .i64 ce) ∧ w'.cell? ⟨N, 2, none⟩ = some (.int .u64 tk) ∧ w'.cell? ⟨N, 3, none⟩ = some (.slice va bs.length vc)) := fun w' hc => by
          have hx := hI3.x.box
          have hy := hI3.y.box
          have h1 : ¬ (N = B ∨ N = C) := fun e => by
            rcases e with e | e
            · rw [e, hx] at hrow; simp at hrow
            · rw [e, hy] at hrow; simp at hrow
          have hr' := hc.heap hrow h1
          exact ⟨(cells_at hr' 0).1, (cells_at hr' 1).1, (cells_at hr' 2).1, (cells_at hr' 3).1⟩
        clear hI3 hD3 hrow
        obtain ⟨q0, q1, q2, q3⟩ := HN.out w4 (Chg.refl _ _)
        go_wp2_with fail
        go_at_call 10
        refine (write_any w4 B vl vn p sn HI.out.1.x ce tk _ bs (HI.out.2.kp HI.out.1.kp)).mono ?_
        rintro e w5 ⟨rfl, vn', hP, hC, _⟩
        have HJ : Hid (TwI W w5 B C (p.write ce tk bs) q vl vn' sn ul un sm ∧ Bs W (.slice va bs.length vc) bs ∧ Chg w4 w5 (fun k => k = B ∨ k = C)) := ⟨HI.out.1.stB hP hC (write_like _ _ _ _), HI.out.2, hC.mono (fun _ _ e => .inl e)⟩
        clear q0 q1 q2 q3 HI hP hC
        obtain ⟨q0, q1, q2, q3⟩ := HN.out w5 HJ.out.2.2
        generalize p.write ce tk bs = p2 at *
        by_cases hk3 : kd = 3
        · subst hk3
          go_wp2_with fail
          go_at_call 11
          refine (turn_any w5 B vl vn' p2 sn HJ.out.1.x ce).mono ?_
          rintro e w6 ⟨rfl, vl2, vn2, sn2, hP2, hC2, _⟩
          have HK : Hid (TwI W w6 B C (p2.turn ce) q vl2 vn2 sn2 ul un sm) := HJ.out.1.stB hP2 hC2 (turn_like _ _)
          clear HJ hP2 hC2 q0 q1 q2 q3 HN
          go_wp2_with fail
          exact ⟨⟨i + 1, _, _, _, _, _, _, _, _, by go_num, by omega, by omega, HK⟩, by simp [nI]; omega⟩
        · have g3 : (kd == 3) = false := by simp [hk3]
          clear hk3
          go_wp2_with fail
          go_at_call 10
          refine (write_any w5 C ul un q sm HJ.out.1.y ce _ _ bs (HJ.out.2.1.kp HJ.out.1.kp)).mono ?_
          rintro e w6 ⟨rfl, un2, hP2, hC2, _⟩
          have HK := HJ.out.1.stC hP2 hC2 (write_like _ _ _ _)
          clear HJ hP2 hC2 q0 q1 q2 q3 HN
          generalize hq2 : q.write ce _ bs = q2 at HK
          clear hq2
          have HK2 : Hid (TwI W w6 B C p2 q2 vl vn' sn ul un2 sm) := HK
          clear HK
          go_wp2_with fail
          go_at_call 11
          refine (turn_any w6 C ul un2 q2 sm HK2.out.y 1).mono ?_
          rintro e w7 ⟨rfl, ul3, un3, sm3, hP3, hC3, _⟩
          have HK3 : Hid (TwI W w7 B C p2 (q2.turn 1) vl vn' sn ul3 un3 sm3) := HK2.out.stC hP3 hC3 (turn_like _ _)
          clear HK2 hP3 hC3
          go_wp2_with fail
          exact ⟨⟨i + 1, _, _, _, _, _, _, _, _, by go_num, by omega, by omega, HK3⟩, by simp [nI]; omega⟩
      · have HE : (i : Int) < (os.length : Int) ∧ ¬ (i : Int) < 100 ∨ ¬ (i : Int) < (os.length : Int) := by
          by_cases h1 : i < os.length
          · left; exact ⟨by omega, fun h => hlt ⟨h1, by omega⟩⟩
          · right; omega
        rcases HE with ⟨e1, e2⟩ | e1
        · go_wp2_with fail
          go_meet
          case rel => exact ⟨p, q, vl, vn, sn, ul, un, sm, HI⟩
        · go_wp2_with fail
          go_meet
          case rel => exact ⟨p, q, vl, vn, sn, ul, un, sm, HI⟩
  case rest =>
    obtain ⟨p, q, vl, vn, sn, ul, un, sm, HI⟩ := hcut
    clear KI HO
    go_wp2_with fail
    go_at_call 17
    refine (state_any wc B vl vn p sn HI.out.x).mono ?_
    rintro e w5 ⟨v5, u5', rfl, o5, o6, k5, _⟩
    obtain ⟨a5, c5, rfl⟩ := o5.shape
    obtain ⟨a6, c6, rfl⟩ := o6.shape
    have R5 := heap_alloc_new w5 (.cells #[.bool p.la.th, .bool p.ne.th, .slice a5 p.la.bs.length c5, .int .u64 p.la.tk, .slice a6 p.ne.bs.length c6, .int .u64 p.ne.tk] 31)
    have HK5 : Hid (TwI W (w5.alloc (.cells #[.bool p.la.th, .bool p.ne.th, .slice a5 p.la.bs.length c5, .int .u64 p.la.tk, .slice a6 p.ne.bs.length c6, .int .u64 p.ne.tk] 31)) B C p q vl vn sn ul un sm ∧ OB (w5.alloc (.cells #[.bool p.la.th, .bool p.ne.th, .slice a5 p.la.bs.length c5, .int .u64 p.la.tk, .slice a6 p.ne.bs.length c6, .int .u64 p.ne.tk] 31)) (.slice a5 p.la.bs.length c5) p.la.bs ∧ OB (w5.alloc (.cells #[.bool p.la.th, .bool p.ne.th, .slice a5 p.la.bs.length c5, .int .u64 p.la.tk, .slice a6 p.ne.bs.length c6, .int .u64 p.ne.tk] 31)) (.slice a6 p.ne.bs.length c6) p.ne.bs ∧ (w5.alloc (.cells #[.bool p.la.th, .bool p.ne.th, .slice a5 p.la.bs.length c5, .int .u64 p.la.tk, .slice a6 p.ne.bs.length c6, .int .u64 p.ne.tk] 31)).heap[w5.heap.size]? = some (.cells #[.bool p.la.th, .bool p.ne.th, .slice a5 p.la.bs.length c5, .int .u64 p.la.tk, .slice a6 p.ne.bs.length c6, .int .u64 p.ne.tk] 31 (0, 0))) :=
      ⟨HI.out.chg (k5.trans (Kp.al _ _)), Chg.owns (Kp.al _ _) o5 (fun _ _ h => h), Chg.owns (Kp.al _ _) o6 (fun _ _ h => h), R5⟩
    clear o5 o6 k5 R5 HI
    go_upto_region 16 with fail
    generalize w5.heap.size = N5 at *
    generalize w5.alloc (.cells #[.bool p.la.th, .bool p.ne.th, .slice a5 p.la.bs.length c5, .int .u64 p.la.tk, .slice a6 p.ne.bs.length c6, .int .u64 p.ne.tk] 31) = w6 at *
    obtain ⟨h1, h2, h3, R5⟩ := HK5.out
    have x0 : w6.cell? ⟨N5, 0, none⟩ = some (.bool p.la.th) := (cells_at R5 0).1
    have x1 : w6.cell? ⟨N5, 1, none⟩ = some (.bool p.ne.th) := (cells_at R5 1).1
    have x2 : w6.cell? ⟨N5, 2, none⟩ = some (.slice a5 p.la.bs.length c5) := (cells_at R5 2).1
    have x3 : w6.cell? ⟨N5, 3, none⟩ = some (.int .u64 p.la.tk) := (cells_at R5 3).1
    have x4 : w6.cell? ⟨N5, 4, none⟩ = some (.slice a6 p.ne.bs.length c6) := (cells_at R5 4).1
    have x5 : w6.cell? ⟨N5, 5, none⟩ = some (.int .u64 p.ne.tk) := (cells_at R5 5).1
    have l1 : p.la.bs.length ≤ 140737488351232 := by have := h1.x.lo.l; have := h1.x.sz; omega
    have l2 : p.ne.bs.length ≤ 140737488351232 := by have := h1.x.no.l; have := h1.x.sz; omega
    have hL : q.ldB p.la.th p.ne.th p.la.bs p.ne.bs p.la.tk p.ne.tk = true := by
      unfold PS.ldB
      rw [← h1.fx.2.2.1, ok_msB h1.x.lo, ok_msB h1.x.no]
      rfl
    have hLd := load_ok w6 C ul un q sm h1.y p.la.th p.ne.th _ _ p.la.bs p.ne.bs p.la.tk p.ne.tk (h2.bs l1) (h3.bs l2) hL (by rw [h2.blk]; exact h2.no h1.y.box (by decide)) (by rw [h3.blk]; exact h3.no h1.y.box (by decide))
    clear h1 h2 h3 R5 l1 l2 hL
    go_wp2_with fail
    go_at_call 19
    refine hLd.mono ?_
    rintro e w7 ⟨rfl, ul', un', hP7, hC7, _⟩
    clear x0 x1 x2 x3 x4 x5 hLd
    obtain ⟨h1, h2, h3, R5⟩ := HK5.out
    have hpq : (⟨q.wr, q.sz, q.rd, ⟨p.la.th, p.la.bs, p.la.tk⟩, ⟨p.ne.th, p.ne.bs, p.ne.tk⟩⟩ : PS) = p := PS.eq_of (by rw [h1.fx.1, h1.fx.2.1]) h1.fx.2.2.1 h1.fx.2.2.2.1
    rw [hpq] at hP7
    have hNC : ¬ N5 = C := fun e => by
      have hy := h1.y.box
      rw [e, hy] at R5
      simp at R5
    have HI : Hid (TwI W w7 B C p p vl vn sn ul' un' sm ∧ OB w7 (.slice a5 p.la.bs.length c5) p.la.bs ∧ OB w7 (.slice a6 p.ne.bs.length c6) p.ne.bs ∧ w7.heap[N5]? = some (.cells #[.bool p.la.th, .bool p.ne.th, .slice a5 p.la.bs.length c5, .int .u64 p.la.tk, .slice a6 p.ne.bs.length c6, .int .u64 p.ne.tk] 31 (0, 0))) :=
      ⟨h1.stC hP7 hC7 ⟨by rw [h1.fx.1, h1.fx.2.1], h1.fx.2.2.1, h1.fx.2.2.2.1⟩, hC7.owns h2 (fun k hk e => h2.no h1.y.box (by decide) (by rw [hk, e])), hC7.owns h3 (fun k hk e => h3.no h1.y.box (by decide) (by rw [hk, e])), hC7.heap R5 hNC⟩
    clear h1 h2 h3 R5 hpq hP7 hC7 hNC HK5
    go_wp2_with fail
    go_at_call 17
    refine (state_any w7 C ul' un' p sm HI.out.1.y).mono ?_
    rintro e w8 ⟨v7, u7', rfl, o7, o8, k7, _⟩
    obtain ⟨a7, c7, rfl⟩ := o7.shape
    obtain ⟨a8, c8, rfl⟩ := o8.shape
    have R7 := heap_alloc_new w8 (.cells #[.bool p.la.th, .bool p.ne.th, .slice a7 p.la.bs.length c7, .int .u64 p.la.tk, .slice a8 p.ne.bs.length c8, .int .u64 p.ne.tk] 31)
    obtain ⟨h1, h2, h3, h4⟩ := HI.out
    have R5 := al_old (.cells #[.bool p.la.th, .bool p.ne.th, .slice a7 p.la.bs.length c7, .int .u64 p.la.tk, .slice a8 p.ne.bs.length c8, .int .u64 p.ne.tk] 31) (k7.heap h4)
    have HK7 : Hid (TwI W (w8.alloc (.cells #[.bool p.la.th, .bool p.ne.th, .slice a7 p.la.bs.length c7, .int .u64 p.la.tk, .slice a8 p.ne.bs.length c8, .int .u64 p.ne.tk] 31)) B C p p vl vn sn ul' un' sm ∧ OB (w8.alloc (.cells #[.bool p.la.th, .bool p.ne.th, .slice a7 p.la.bs.length c7, .int .u64 p.la.tk, .slice a8 p.ne.bs.length c8, .int .u64 p.ne.tk] 31)) (.slice a5 p.la.bs.length c5) p.la.bs ∧ OB (w8.alloc (.cells #[.bool p.la.th, .bool p.ne.th, .slice a7 p.la.bs.length c7, .int .u64 p.la.tk, .slice a8 p.ne.bs.length c8, .int .u64 p.ne.tk] 31)) (.slice a6 p.ne.bs.length c6) p.ne.bs ∧ OB (w8.alloc (.cells #[.bool p.la.th, .bool p.ne.th, .slice a7 p.la.bs.length c7, .int .u64 p.la.tk, .slice a8 p.ne.bs.length c8, .int .u64 p.ne.tk] 31)) (.slice a7 p.la.bs.length c7) p.la.bs ∧ OB (w8.alloc (.cells #[.bool p.la.th, .bool p.ne.th, .slice a7 p.la.bs.length c7, .int .u64 p.la.tk, .slice a8 p.ne.bs.length c8, .int .u64 p.ne.tk] 31)) (.slice a8 p.ne.bs.length c8) p.ne.bs ∧ (w8.alloc (.cells #[.bool p.la.th, .bool p.ne.th, .slice a7 p.la.bs.length c7, .int .u64 p.la.tk, .slice a8 p.ne.bs.length c8, .int .u64 p.ne.tk] 31)).heap[w8.heap.size]? = some (.cells #[.bool p.la.th, .bool p.ne.th, .slice a7 p.la.bs.length c7, .int .u64 p.la.tk, .slice a8 p.ne.bs.length c8, .int .u64 p.ne.tk] 31 (0, 0)) ∧ (w8.alloc (.cells #[.bool p.la.th, .bool p.ne.th, .slice a7 p.la.bs.length c7, .int .u64 p.la.tk, .slice a8 p.ne.bs.length c8, .int .u64 p.ne.tk] 31)).heap[N5]? = some (.cells #[.bool p.la.th, .bool p.ne.th, .slice a5 p.la.bs.length c5, .int .u64 p.la.tk, .slice a6 p.ne.bs.length c6, .int .u64 p.ne.tk] 31 (0, 0))) :=
      ⟨h1.chg (k7.trans (Kp.al _ _)), Chg.owns (k7.trans (Kp.al _ _)) h2 (fun _ _ h => h), Chg.owns (k7.trans (Kp.al _ _)) h3 (fun _ _ h => h), Chg.owns (Kp.al _ _) o7 (fun _ _ h => h), Chg.owns (Kp.al _ _) o8 (fun _ _ h => h), R7, R5⟩
    clear h1 h2 h3 h4 o7 o8 k7 R7 R5 HI
    go_upto_region 18 with fail
    generalize w8.heap.size = N7 at *
    generalize w8.alloc (.cells #[.bool p.la.th, .bool p.ne.th, .slice a7 p.la.bs.length c7, .int .u64 p.la.tk, .slice a8 p.ne.bs.length c8, .int .u64 p.ne.tk] 31) = w9 at *
    obtain ⟨h1, h2, h3, h4, h5, R7, R5⟩ := HK7.out
    have x0 : w9.cell? ⟨N5, 0, none⟩ = some (.bool p.la.th) := (cells_at R5 0).1
    have x1 : w9.cell? ⟨N5, 1, none⟩ = some (.bool p.ne.th) := (cells_at R5 1).1
    have x2 : w9.cell? ⟨N5, 2, none⟩ = some (.slice a5 p.la.bs.length c5) := (cells_at R5 2).1
    have x3 : w9.cell? ⟨N5, 3, none⟩ = some (.int .u64 p.la.tk) := (cells_at R5 3).1
    have x4 : w9.cell? ⟨N5, 4, none⟩ = some (.slice a6 p.ne.bs.length c6) := (cells_at R5 4).1
    have x5 : w9.cell? ⟨N5, 5, none⟩ = some (.int .u64 p.ne.tk) := (cells_at R5 5).1
    have y0 : w9.cell? ⟨N7, 0, none⟩ = some (.bool p.la.th) := (cells_at R7 0).1
    have y1 : w9.cell? ⟨N7, 1, none⟩ = some (.bool p.ne.th) := (cells_at R7 1).1
    have y2 : w9.cell? ⟨N7, 2, none⟩ = some (.slice a7 p.la.bs.length c7) := (cells_at R7 2).1
    have y3 : w9.cell? ⟨N7, 3, none⟩ = some (.int .u64 p.la.tk) := (cells_at R7 3).1
    have y4 : w9.cell? ⟨N7, 4, none⟩ = some (.slice a8 p.ne.bs.length c8) := (cells_at R7 4).1
    have y5 : w9.cell? ⟨N7, 5, none⟩ = some (.int .u64 p.ne.tk) := (cells_at R7 5).1
    have l1 : p.la.bs.length ≤ 140737488351232 := by have := h1.x.lo.l; have := h1.x.sz; omega
    have l2 : p.ne.bs.length ≤ 140737488351232 := by have := h1.x.no.l; have := h1.x.sz; omega
    have hS := sameState_eq w9 p.la.th p.ne.th p.la.bs p.ne.bs p.la.tk p.ne.tk _ _ _ _ (h2.bs l1) (h3.bs l2) (h4.bs l1) (h5.bs l2)
    clear h1 h2 h3 h4 h5 R5 R7 l1 l2
    go_wp2_with fail
    go_at_call 18
    refine hS.mono ?_
    rintro e w10 ⟨rfl, k10⟩
    have KI : Hid (TwI W w10 B C p p vl vn sn ul' un' sm) := HK7.out.1.chg k10
    clear hS k10 HK7 x0 x1 x2 x3 x4 x5 y0 y1 y2 y3 y4 y5
    generalize ul' = ul at *
    generalize un' = un at *
    go_upto_block 2 with fail
    go_cut [16, 22, 23, 24] from 104 to 159 (fun s16 s22 s23 s24 wx => ∃ (p : PS) (vl vn : Value) (sn : Bool) (ul un : Value) (sm : Bool), Hid (TwI W wx B C p p vl vn sn ul un sm))
    case first =>
      go_wp2_with fail
      go_loopw [16] (fun s16 wr => ∃ (i : Nat) (p : PS) (vl vn : Value) (sn : Bool) (ul un : Value) (sm : Bool), s16 = .int .i64 i ∧ i ≤ os'.length ∧ i ≤ 100 ∧ Hid (TwI W wr B C p p vl vn sn ul un sm)) (fun s16 _ => 100 - nI s16)
      case atStart => exact ⟨0, p, _, _, sn, _, _, sm, rfl, by omega, by omega, KI⟩
      case round =>
        obtain ⟨i, p, vl, vn, sn, ul, un, sm, rfl, hi, hi2, HI⟩ := hrel
        clear KI
        by_cases hlt : i < os'.length ∧ i < 100
        · have hz1 : (i : Int) < (os'.length : Int) := by omega
          have hz2 : (i : Int) < 100 := by omega
          have hd := HO'.out.d i hlt.1
          rcases HO'.out.c with e | ⟨b, o, rfl, hcc⟩
          · rw [e] at hlt; simp at hlt
          have hr := range_kp (hcc i hlt.1) HI.out.kp
          have HD : Hid (os'[i].data W) := hd
          clear hcc hd
          generalize os'[i] = ov at hr HD
          obtain ⟨kd, ce, tk, v, bs, th, nt, v1, b1, t1, v2, b2, t2⟩ := ov
          obtain ⟨va, vc, hva⟩ := HD.out.b.vshape
          obtain ⟨va1, vc1, hva1⟩ := HD.out.b1.vshape
          obtain ⟨va2, vc2, hva2⟩ := HD.out.b2.vshape
          simp only at hva hva1 hva2
          subst hva hva1 hva2
          unfold opC at hr
          simp only at hr
          have r0 := hr 0 _ rfl
          have r1 := hr 1 _ rfl
          have r2 := hr 2 _ rfl
          have r3 := hr 3 _ rfl
          have r4 := hr 4 _ rfl
          have r5 := hr 5 _ rfl
          have r6 := hr 6 _ rfl
          have r7 := hr 7 _ rfl
          have r8 := hr 8 _ rfl
          have r9 := hr 9 _ rfl
          simp only [Nat.add_zero] at r0
          clear hr
          go_upto_region 25 with fail
          have hI3 := HI.out.chg (Kp.al wr (.cells #[.int .i64 kd, .int .i64 ce, .int .u64 tk, .slice va bs.length vc, .bool th, .bool nt, .slice va1 b1.length vc1, .int .u64 t1, .slice va2 b2.length vc2, .int .u64 t2] 33))
          have hD3 := HD.out.b
          have hrow := heap_alloc_new wr (.cells #[.int .i64 kd, .int .i64 ce, .int .u64 tk, .slice va bs.length vc, .bool th, .bool nt, .slice va1 b1.length vc1, .int .u64 t1, .slice va2 b2.length vc2, .int .u64 t2] 33)
          simp only at hD3
          clear r0 r1 r2 r3 r4 r5 r6 r7 r8 r9 HD HI
          generalize hN : wr.heap.size = N at *
          clear hN
          generalize wr.alloc (.cells #[.int .i64 kd, .int .i64 ce, .int .u64 tk, .slice va bs.length vc, .bool th, .bool nt, .slice va1 b1.length vc1, .int .u64 t1, .slice va2 b2.length vc2, .int .u64 t2] 33) = w4 at *
          have HI : Hid (TwI W w4 B C p p vl vn sn ul un sm ∧ Bs W (.slice va bs.length vc) bs) := ⟨hI3, hD3⟩
          have HN : Hid (∀ w' : World, Chg w4 w' (fun k => k = B ∨ k = C) → w'.cell? ⟨N, 0, none⟩ = some (.int .i64 kd) ∧ w'.cell? ⟨N, 1, none⟩ = some (.int .i64 ce) ∧ w'.cell? ⟨N, 2, none⟩ = some (.int .u64 tk) ∧ w'.cell? ⟨N, 3, none⟩ = some (.slice va bs.length vc)) := fun w' hc => by
            have hx := hI3.x.box
            have hy := hI3.y.box
            have h1 : ¬ (N = B ∨ N = C) := fun e => by
              rcases e with e | e
              · rw [e, hx] at hrow; simp at hrow
              · rw [e, hy] at hrow; simp at hrow
            have hr' := hc.heap hrow h1
            exact ⟨(cells_at hr' 0).1, (cells_at hr' 1).1, (cells_at hr' 2).1, (cells_at hr' 3).1⟩
          clear hI3 hD3 hrow
          obtain ⟨q0, q1, q2, q3⟩ := HN.out w4 (Chg.refl _ _)
          go_upto_if 120 with fail
          go_cut [18, 19, 20, 21] from 104 to 159 (fun s18 s19 s20 s21 wx => ∃ (p : PS) (vl vn : Value) (sn : Bool) (ul un : Value) (sm : Bool), Hid (TwI W wx B C p p vl vn sn ul un sm))
          case first =>
            by_cases hk3 : kd = 3
            · subst hk3
              go_wp2_with fail
              go_at_call 11
              refine (turn_any w4 B vl vn p sn HI.out.1.x ce).mono ?_
              rintro e w6 ⟨rfl, vl2, vn2, sn2, hP2, hC2, _⟩
              have HK : Hid (TwI W w6 B C (p.turn ce) p vl2 vn2 sn2 ul un sm) := HI.out.1.stB hP2 hC2 (turn_like _ _)
              clear q0 q1 q2 q3
              obtain ⟨q0, q1, q2, q3⟩ := HN.out w6 (hC2.mono (fun _ _ e => .inl e))
              clear HI hP2 hC2
              go_wp2_with fail
              go_at_call 11
              refine (turn_any w6 C ul un p sm HK.out.y ce).mono ?_
              rintro e w7 ⟨rfl, ul3, un3, sm3, hP3, hC3, _⟩
              have HK3 : Hid (TwI W w7 B C (p.turn ce) (p.turn ce) vl2 vn2 sn2 ul3 un3 sm3) := HK.out.stC hP3 hC3 (turn_like _ _)
              clear HK hP3 hC3 q0 q1 q2 q3 HN
              generalize p.tN ce = we at *
              have gw : ((we : Int) != (we : Int)) = false := by simp
              go_wp2_with fail
              go_meet
              case rel => exact ⟨_, _, _, _, _, _, _, HK3⟩
            · have g3 : (kd == 3) = false := by simp [hk3]
              clear hk3
              go_wp2_with fail
              go_at_call 10
              refine (write_any w4 B vl vn p sn HI.out.1.x ce tk _ bs (HI.out.2.kp HI.out.1.kp)).mono ?_
              rintro e w6 ⟨rfl, vn2, hP2, hC2, _⟩
              have HK : Hid (TwI W w6 B C (p.write ce tk bs) p vl vn2 sn ul un sm ∧ Bs W (.slice va bs.length vc) bs) := ⟨HI.out.1.stB hP2 hC2 (write_like _ _ _ _), HI.out.2⟩
              clear q0 q1 q2 q3
              obtain ⟨q0, q1, q2, q3⟩ := HN.out w6 (hC2.mono (fun _ _ e => .inl e))
              clear HI hP2 hC2
              go_wp2_with fail
              go_at_call 10
              refine (write_any w6 C ul un p sm HK.out.1.y ce tk _ bs (HK.out.2.kp HK.out.1.kp)).mono ?_
              rintro e w7 ⟨rfl, un3, hP3, hC3, _⟩
              have HK3 : Hid (TwI W w7 B C (p.write ce tk bs) (p.write ce tk bs) vl vn2 sn ul un3 sm) := HK.out.1.stC hP3 hC3 (write_like _ _ _ _)
              clear HK hP3 hC3 q0 q1 q2 q3 HN
              generalize p.wE ce bs.length = we at *
              have gw : (we != we) = false := by simp
              go_wp2_with fail
              go_meet
              case rel => exact ⟨_, _, _, _, _, _, _, HK3⟩
          case rest =>
            clear HI HN
            obtain ⟨p, vl, vn, sn, ul, un, sm, HI⟩ := hcut
            go_wp2_with fail
            go_at_call 17
            refine (state_any wc B _ _ p _ HI.out.x).mono ?_
            rintro e w5 ⟨v5, u5', rfl, o5, o6, k5, _⟩
            obtain ⟨a5, c5, rfl⟩ := o5.shape
            obtain ⟨a6, c6, rfl⟩ := o6.shape
            have R5 := heap_alloc_new w5 (.cells #[.bool p.la.th, .bool p.ne.th, .slice a5 p.la.bs.length c5, .int .u64 p.la.tk, .slice a6 p.ne.bs.length c6, .int .u64 p.ne.tk] 31)
            have HK5 : Hid (TwI W (w5.alloc (.cells #[.bool p.la.th, .bool p.ne.th, .slice a5 p.la.bs.length c5, .int .u64 p.la.tk, .slice a6 p.ne.bs.length c6, .int .u64 p.ne.tk] 31)) B C p p vl vn sn ul un sm ∧ OB (w5.alloc (.cells #[.bool p.la.th, .bool p.ne.th, .slice a5 p.la.bs.length c5, .int .u64 p.la.tk, .slice a6 p.ne.bs.length c6, .int .u64 p.ne.tk] 31)) (.slice a5 p.la.bs.length c5) p.la.bs ∧ OB (w5.alloc (.cells #[.bool p.la.th, .bool p.ne.th, .slice a5 p.la.bs.length c5, .int .u64 p.la.tk, .slice a6 p.ne.bs.length c6, .int .u64 p.ne.tk] 31)) (.slice a6 p.ne.bs.length c6) p.ne.bs ∧ (w5.alloc (.cells #[.bool p.la.th, .bool p.ne.th, .slice a5 p.la.bs.length c5, .int .u64 p.la.tk, .slice a6 p.ne.bs.length c6, .int .u64 p.ne.tk] 31)).heap[w5.heap.size]? = some (.cells #[.bool p.la.th, .bool p.ne.th, .slice a5 p.la.bs.length c5, .int .u64 p.la.tk, .slice a6 p.ne.bs.length c6, .int .u64 p.ne.tk] 31 (0, 0))) :=
              ⟨HI.out.chg (k5.trans (Kp.al _ _)), Chg.owns (Kp.al _ _) o5 (fun _ _ h => h), Chg.owns (Kp.al _ _) o6 (fun _ _ h => h), R5⟩
            clear o5 o6 k5 R5 HI
            go_upto_region 35 with fail
            generalize w5.heap.size = N5 at *
            generalize w5.alloc (.cells #[.bool p.la.th, .bool p.ne.th, .slice a5 p.la.bs.length c5, .int .u64 p.la.tk, .slice a6 p.ne.bs.length c6, .int .u64 p.ne.tk] 31) = w6 at *
            go_wp2_with fail
            go_at_call 17
            refine (state_any w6 C _ _ p _ HK5.out.1.y).mono ?_
            rintro e w7 ⟨v7, u7', rfl, o7, o8, k7, _⟩
            obtain ⟨a7, c7, rfl⟩ := o7.shape
            obtain ⟨a8, c8, rfl⟩ := o8.shape
            have R7 := heap_alloc_new w7 (.cells #[.bool p.la.th, .bool p.ne.th, .slice a7 p.la.bs.length c7, .int .u64 p.la.tk, .slice a8 p.ne.bs.length c8, .int .u64 p.ne.tk] 31)
            obtain ⟨h1, h2, h3, h4⟩ := HK5.out
            have R5 := al_old (.cells #[.bool p.la.th, .bool p.ne.th, .slice a7 p.la.bs.length c7, .int .u64 p.la.tk, .slice a8 p.ne.bs.length c8, .int .u64 p.ne.tk] 31) (k7.heap h4)
            have HK7 : Hid (TwI W (w7.alloc (.cells #[.bool p.la.th, .bool p.ne.th, .slice a7 p.la.bs.length c7, .int .u64 p.la.tk, .slice a8 p.ne.bs.length c8, .int .u64 p.ne.tk] 31)) B C p p vl vn sn ul un sm ∧ OB (w7.alloc (.cells #[.bool p.la.th, .bool p.ne.th, .slice a7 p.la.bs.length c7, .int .u64 p.la.tk, .slice a8 p.ne.bs.length c8, .int .u64 p.ne.tk] 31)) (.slice a5 p.la.bs.length c5) p.la.bs ∧ OB (w7.alloc (.cells #[.bool p.la.th, .bool p.ne.th, .slice a7 p.la.bs.length c7, .int .u64 p.la.tk, .slice a8 p.ne.bs.length c8, .int .u64 p.ne.tk] 31)) (.slice a6 p.ne.bs.length c6) p.ne.bs ∧ OB (w7.alloc (.cells #[.bool p.la.th, .bool p.ne.th, .slice a7 p.la.bs.length c7, .int .u64 p.la.tk, .slice a8 p.ne.bs.length c8, .int .u64 p.ne.tk] 31)) (.slice a7 p.la.bs.length c7) p.la.bs ∧ OB (w7.alloc (.cells #[.bool p.la.th, .bool p.ne.th, .slice a7 p.la.bs.length c7, .int .u64 p.la.tk, .slice a8 p.ne.bs.length c8, .int .u64 p.ne.tk] 31)) (.slice a8 p.ne.bs.length c8) p.ne.bs ∧ (w7.alloc (.cells #[.bool p.la.th, .bool p.ne.th, .slice a7 p.la.bs.length c7, .int .u64 p.la.tk, .slice a8 p.ne.bs.length c8, .int .u64 p.ne.tk] 31)).heap[w7.heap.size]? = some (.cells #[.bool p.la.th, .bool p.ne.th, .slice a7 p.la.bs.length c7, .int .u64 p.la.tk, .slice a8 p.ne.bs.length c8, .int .u64 p.ne.tk] 31 (0, 0)) ∧ (w7.alloc (.cells #[.bool p.la.th, .bool p.ne.th, .slice a7 p.la.bs.length c7, .int .u64 p.la.tk, .slice a8 p.ne.bs.length c8, .int .u64 p.ne.tk] 31)).heap[N5]? = some (.cells #[.bool p.la.th, .bool p.ne.th, .slice a5 p.la.bs.length c5, .int .u64 p.la.tk, .slice a6 p.ne.bs.length c6, .int .u64 p.ne.tk] 31 (0, 0))) :=
              ⟨h1.chg (k7.trans (Kp.al _ _)), Chg.owns (k7.trans (Kp.al _ _)) h2 (fun _ _ h => h), Chg.owns (k7.trans (Kp.al _ _)) h3 (fun _ _ h => h), Chg.owns (Kp.al _ _) o7 (fun _ _ h => h), Chg.owns (Kp.al _ _) o8 (fun _ _ h => h), R7, R5⟩
            clear h1 h2 h3 h4 o7 o8 k7 R7 R5 HK5
            go_upto_region 36 with fail
            generalize w7.heap.size = N7 at *
            generalize w7.alloc (.cells #[.bool p.la.th, .bool p.ne.th, .slice a7 p.la.bs.length c7, .int .u64 p.la.tk, .slice a8 p.ne.bs.length c8, .int .u64 p.ne.tk] 31) = w8 at *
            obtain ⟨h1, h2, h3, h4, h5, R7, R5⟩ := HK7.out
            have x0 : w8.cell? ⟨N5, 0, none⟩ = some (.bool p.la.th) := (cells_at R5 0).1
            have x1 : w8.cell? ⟨N5, 1, none⟩ = some (.bool p.ne.th) := (cells_at R5 1).1
            have x2 : w8.cell? ⟨N5, 2, none⟩ = some (.slice a5 p.la.bs.length c5) := (cells_at R5 2).1
            have x3 : w8.cell? ⟨N5, 3, none⟩ = some (.int .u64 p.la.tk) := (cells_at R5 3).1
            have x4 : w8.cell? ⟨N5, 4, none⟩ = some (.slice a6 p.ne.bs.length c6) := (cells_at R5 4).1
            have x5 : w8.cell? ⟨N5, 5, none⟩ = some (.int .u64 p.ne.tk) := (cells_at R5 5).1
            have y0 : w8.cell? ⟨N7, 0, none⟩ = some (.bool p.la.th) := (cells_at R7 0).1
            have y1 : w8.cell? ⟨N7, 1, none⟩ = some (.bool p.ne.th) := (cells_at R7 1).1
            have y2 : w8.cell? ⟨N7, 2, none⟩ = some (.slice a7 p.la.bs.length c7) := (cells_at R7 2).1
            have y3 : w8.cell? ⟨N7, 3, none⟩ = some (.int .u64 p.la.tk) := (cells_at R7 3).1
            have y4 : w8.cell? ⟨N7, 4, none⟩ = some (.slice a8 p.ne.bs.length c8) := (cells_at R7 4).1
            have y5 : w8.cell? ⟨N7, 5, none⟩ = some (.int .u64 p.ne.tk) := (cells_at R7 5).1
            have l1 : p.la.bs.length ≤ 140737488351232 := by have := h1.x.lo.l; have := h1.x.sz; omega
            have l2 : p.ne.bs.length ≤ 140737488351232 := by have := h1.x.no.l; have := h1.x.sz; omega
            have hS := sameState_eq w8 p.la.th p.ne.th p.la.bs p.ne.bs p.la.tk p.ne.tk _ _ _ _ (h2.bs l1) (h3.bs l2) (h4.bs l1) (h5.bs l2)
            clear h1 h2 h3 h4 h5 R5 R7 l1 l2
            go_wp2_with fail
            go_at_call 18
            refine hS.mono ?_
            rintro e w9 ⟨rfl, k9⟩
            have HU : Hid (TwI W w9 B C p p vl vn sn ul un sm) := HK7.out.1.chg k9
            clear hS k9 HK7 x0 x1 x2 x3 x4 x5 y0 y1 y2 y3 y4 y5
            go_wp2_with fail
            exact ⟨⟨i + 1, p, vl, vn, sn, ul, un, sm, by go_num, by omega, by omega, HU⟩, by simp [nI]; omega⟩
        · have HE : (i : Int) < (os'.length : Int) ∧ ¬ (i : Int) < 100 ∨ ¬ (i : Int) < (os'.length : Int) := by
            by_cases h1 : i < os'.length
            · left; exact ⟨by omega, fun h => hlt ⟨h1, by omega⟩⟩
            · right; omega
          rcases HE with ⟨e1, e2⟩ | e1
          · go_wp2_with fail
            go_meet
            case rel => exact ⟨p, vl, vn, sn, ul, un, sm, HI⟩
          · go_wp2_with fail
            go_meet
            case rel => exact ⟨p, vl, vn, sn, ul, un, sm, HI⟩
    case rest =>
      clear KI
      obtain ⟨p, vl, vn, sn, ul, un, sm, HI⟩ := hcut
      go_wp2_with fail
      go_at_call 17
      refine (state_any wc C ul un p sm HI.out.y).mono ?_
      rintro e w5 ⟨v5, u5', rfl, o5, o6, k5, _⟩
      obtain ⟨a5, c5, rfl⟩ := o5.shape
      obtain ⟨a6, c6, rfl⟩ := o6.shape
      have R5 := heap_alloc_new w5 (.cells #[.bool p.la.th, .bool p.ne.th, .slice a5 p.la.bs.length c5, .int .u64 p.la.tk, .slice a6 p.ne.bs.length c6, .int .u64 p.ne.tk] 31)
      have HK5 : Hid (TwI W (w5.alloc (.cells #[.bool p.la.th, .bool p.ne.th, .slice a5 p.la.bs.length c5, .int .u64 p.la.tk, .slice a6 p.ne.bs.length c6, .int .u64 p.ne.tk] 31)) B C p p vl vn sn ul un sm ∧ OB (w5.alloc (.cells #[.bool p.la.th, .bool p.ne.th, .slice a5 p.la.bs.length c5, .int .u64 p.la.tk, .slice a6 p.ne.bs.length c6, .int .u64 p.ne.tk] 31)) (.slice a5 p.la.bs.length c5) p.la.bs ∧ OB (w5.alloc (.cells #[.bool p.la.th, .bool p.ne.th, .slice a5 p.la.bs.length c5, .int .u64 p.la.tk, .slice a6 p.ne.bs.length c6, .int .u64 p.ne.tk] 31)) (.slice a6 p.ne.bs.length c6) p.ne.bs ∧ (w5.alloc (.cells #[.bool p.la.th, .bool p.ne.th, .slice a5 p.la.bs.length c5, .int .u64 p.la.tk, .slice a6 p.ne.bs.length c6, .int .u64 p.ne.tk] 31)).heap[w5.heap.size]? = some (.cells #[.bool p.la.th, .bool p.ne.th, .slice a5 p.la.bs.length c5, .int .u64 p.la.tk, .slice a6 p.ne.bs.length c6, .int .u64 p.ne.tk] 31 (0, 0))) :=
        ⟨HI.out.chg (k5.trans (Kp.al _ _)), Chg.owns (Kp.al _ _) o5 (fun _ _ h => h), Chg.owns (Kp.al _ _) o6 (fun _ _ h => h), R5⟩
      clear o5 o6 k5 R5 HI
      go_upto_region 40 with fail
      generalize w5.heap.size = N5 at *
      generalize w5.alloc (.cells #[.bool p.la.th, .bool p.ne.th, .slice a5 p.la.bs.length c5, .int .u64 p.la.tk, .slice a6 p.ne.bs.length c6, .int .u64 p.ne.tk] 31) = w6 at *
      go_wp2_with fail
      go_at_call 10
      refine (write_any (w6.alloc (.cells #[.int .u8 9, .int .u8 9, .int .u8 9, .int .u8 9] 5)) B vl vn p sn (HK5.out.1.x.kp (Kp.al _ _)) 1 5 _ [9, 9, 9, 9] (bs9 w6)).mono ?_
      rintro e w7 ⟨rfl, vn2, hP2, hC2, _⟩
      obtain ⟨h1, h2, h3, R5⟩ := HK5.out
      have hNB : ¬ N5 = B := fun e => by
        have hy := h1.x.box
        rw [e, hy] at R5
        simp at R5
      have kA := Kp.al w6 (.cells #[.int .u8 9, .int .u8 9, .int .u8 9, .int .u8 9] 5)
      have hCa : Chg w6 w7 (fun k => k = B) := Chg.trans kA.any hC2 (fun _ _ h => h)
      have HK7 : Hid (TwI W w7 B C (p.write 1 5 [9, 9, 9, 9]) p vl vn2 sn ul un sm ∧ OB w7 (.slice a5 p.la.bs.length c5) p.la.bs ∧ OB w7 (.slice a6 p.ne.bs.length c6) p.ne.bs ∧ w7.heap[N5]? = some (.cells #[.bool p.la.th, .bool p.ne.th, .slice a5 p.la.bs.length c5, .int .u64 p.la.tk, .slice a6 p.ne.bs.length c6, .int .u64 p.ne.tk] 31 (0, 0)) ∧ ¬ N5 = B) :=
        ⟨(h1.chg kA).stB hP2 hC2 (write_like _ _ _ _), hCa.owns h2 (fun k hk e => h2.no h1.x.box (by decide) (by rw [hk, e])), hCa.owns h3 (fun k hk e => h3.no h1.x.box (by decide) (by rw [hk, e])), hCa.heap R5 hNB, hNB⟩
      clear h1 h2 h3 R5 hNB kA hCa hP2 hC2 HK5
      generalize p.write 1 5 [9, 9, 9, 9] = p2 at *
      go_wp2_with fail
      go_at_call 11
      refine (turn_any w7 B vl vn2 p2 sn HK7.out.1.x 1).mono ?_
      rintro e w8 ⟨rfl, vl3, vn3, sn3, hP3, hC3, _⟩
      obtain ⟨h1, h2, h3, R5, hNB⟩ := HK7.out
      have HK8 : Hid (TwI W w8 B C (p2.turn 1) p vl3 vn3 sn3 ul un sm ∧ OB w8 (.slice a5 p.la.bs.length c5) p.la.bs ∧ OB w8 (.slice a6 p.ne.bs.length c6) p.ne.bs ∧ w8.heap[N5]? = some (.cells #[.bool p.la.th, .bool p.ne.th, .slice a5 p.la.bs.length c5, .int .u64 p.la.tk, .slice a6 p.ne.bs.length c6, .int .u64 p.ne.tk] 31 (0, 0))) :=
        ⟨h1.stB hP3 hC3 (turn_like _ _), hC3.owns h2 (fun k hk e => h2.no h1.x.box (by decide) (by rw [hk, e])), hC3.owns h3 (fun k hk e => h3.no h1.x.box (by decide) (by rw [hk, e])), hC3.heap R5 hNB⟩
      clear h1 h2 h3 R5 hNB hP3 hC3 HK7
      generalize p2.turn 1 = p3 at *
      go_wp2_with fail
      go_at_call 12
      have hmr : p.mr 3 = true := by
        have h := HK8.out.1.fx
        have h2 : p.rd 3 = true := by rw [← h.2.2.2.1]; exact h.2.2.2.2
        simp [PS.mr, h2]
      refine (read_ok w8 C ul un p sm HK8.out.1.y 3 hmr).mono ?_
      rintro e w9 ⟨v9, rfl, o9, k9, _⟩
      obtain ⟨a9, c9, rfl⟩ := o9.shape
      obtain ⟨h1, h2, h3, R5⟩ := HK8.out
      have HK9 : Hid (TwI W w9 B C p3 p vl3 vn3 sn3 ul un sm ∧ OB w9 (.slice a5 p.la.bs.length c5) p.la.bs ∧ OB w9 (.slice a6 p.ne.bs.length c6) p.ne.bs ∧ w9.heap[N5]? = some (.cells #[.bool p.la.th, .bool p.ne.th, .slice a5 p.la.bs.length c5, .int .u64 p.la.tk, .slice a6 p.ne.bs.length c6, .int .u64 p.ne.tk] 31 (0, 0)) ∧ OB w9 (.slice a9 p.la.bs.length c9) p.la.bs) :=
        ⟨h1.chg k9, Chg.owns k9 h2 (fun _ _ h => h), Chg.owns k9 h3 (fun _ _ h => h), k9.heap R5, o9⟩
      clear h1 h2 h3 R5 o9 k9 HK8 hmr
      have x2 : w9.cell? ⟨N5, 2, none⟩ = some (.slice a5 p.la.bs.length c5) := (cells_at HK9.out.2.2.2.1 2).1
      have l1 : p.la.bs.length ≤ 140737488351232 := by have := HK9.out.1.y.lo.l; have := HK9.out.1.y.sz; omega
      go_wp2_with fail
      go_at_call 13
      refine (same_any w9 _ _ p.la.bs p.la.bs (HK9.out.2.2.2.2.bs l1) (HK9.out.2.1.bs l1)).mono ?_
      rintro e w10 ⟨rfl, m10, hm10⟩
      have s1 : decide (p.la.bs = p.la.bs) = true := by simp
      rw [s1]
      have k10 : Kp w9 w10 := by rw [hm10]; exact Kp.drewN _ _
      obtain ⟨h1, h2, h3, R5, _⟩ := HK9.out
      have HK10 : Hid (TwI W w10 B C p3 p vl3 vn3 sn3 ul un sm ∧ OB w10 (.slice a5 p.la.bs.length c5) p.la.bs ∧ OB w10 (.slice a6 p.ne.bs.length c6) p.ne.bs ∧ w10.heap[N5]? = some (.cells #[.bool p.la.th, .bool p.ne.th, .slice a5 p.la.bs.length c5, .int .u64 p.la.tk, .slice a6 p.ne.bs.length c6, .int .u64 p.ne.tk] 31 (0, 0))) :=
        ⟨h1.chg k10, Chg.owns k10 h2 (fun _ _ h => h), Chg.owns k10 h3 (fun _ _ h => h), k10.heap R5⟩
      clear h1 h2 h3 R5 k10 hm10 s1 x2 l1 HK9
      go_wp2_with fail
      go_at_call 17
      refine (state_any w10 C ul un p sm HK10.out.1.y).mono ?_
      rintro e w11 ⟨v7, u7', rfl, o7, o8, k7, _⟩
      obtain ⟨a7, c7, rfl⟩ := o7.shape
      obtain ⟨a8, c8, rfl⟩ := o8.shape
      have R7 := heap_alloc_new w11 (.cells #[.bool p.la.th, .bool p.ne.th, .slice a7 p.la.bs.length c7, .int .u64 p.la.tk, .slice a8 p.ne.bs.length c8, .int .u64 p.ne.tk] 31)
      obtain ⟨h1, h2, h3, h4⟩ := HK10.out
      have R5 := al_old (.cells #[.bool p.la.th, .bool p.ne.th, .slice a7 p.la.bs.length c7, .int .u64 p.la.tk, .slice a8 p.ne.bs.length c8, .int .u64 p.ne.tk] 31) (k7.heap h4)
      have HK7 : Hid (TwI W (w11.alloc (.cells #[.bool p.la.th, .bool p.ne.th, .slice a7 p.la.bs.length c7, .int .u64 p.la.tk, .slice a8 p.ne.bs.length c8, .int .u64 p.ne.tk] 31)) B C p3 p vl3 vn3 sn3 ul un sm ∧ OB (w11.alloc (.cells #[.bool p.la.th, .bool p.ne.th, .slice a7 p.la.bs.length c7, .int .u64 p.la.tk, .slice a8 p.ne.bs.length c8, .int .u64 p.ne.tk] 31)) (.slice a5 p.la.bs.length c5) p.la.bs ∧ OB (w11.alloc (.cells #[.bool p.la.th, .bool p.ne.th, .slice a7 p.la.bs.length c7, .int .u64 p.la.tk, .slice a8 p.ne.bs.length c8, .int .u64 p.ne.tk] 31)) (.slice a6 p.ne.bs.length c6) p.ne.bs ∧ OB (w11.alloc (.cells #[.bool p.la.th, .bool p.ne.th, .slice a7 p.la.bs.length c7, .int .u64 p.la.tk, .slice a8 p.ne.bs.length c8, .int .u64 p.ne.tk] 31)) (.slice a7 p.la.bs.length c7) p.la.bs ∧ OB (w11.alloc (.cells #[.bool p.la.th, .bool p.ne.th, .slice a7 p.la.bs.length c7, .int .u64 p.la.tk, .slice a8 p.ne.bs.length c8, .int .u64 p.ne.tk] 31)) (.slice a8 p.ne.bs.length c8) p.ne.bs ∧ (w11.alloc (.cells #[.bool p.la.th, .bool p.ne.th, .slice a7 p.la.bs.length c7, .int .u64 p.la.tk, .slice a8 p.ne.bs.length c8, .int .u64 p.ne.tk] 31)).heap[w11.heap.size]? = some (.cells #[.bool p.la.th, .bool p.ne.th, .slice a7 p.la.bs.length c7, .int .u64 p.la.tk, .slice a8 p.ne.bs.length c8, .int .u64 p.ne.tk] 31 (0, 0)) ∧ (w11.alloc (.cells #[.bool p.la.th, .bool p.ne.th, .slice a7 p.la.bs.length c7, .int .u64 p.la.tk, .slice a8 p.ne.bs.length c8, .int .u64 p.ne.tk] 31)).heap[N5]? = some (.cells #[.bool p.la.th, .bool p.ne.th, .slice a5 p.la.bs.length c5, .int .u64 p.la.tk, .slice a6 p.ne.bs.length c6, .int .u64 p.ne.tk] 31 (0, 0))) :=
        ⟨h1.chg (k7.trans (Kp.al _ _)), Chg.owns (k7.trans (Kp.al _ _)) h2 (fun _ _ h => h), Chg.owns (k7.trans (Kp.al _ _)) h3 (fun _ _ h => h), Chg.owns (Kp.al _ _) o7 (fun _ _ h => h), Chg.owns (Kp.al _ _) o8 (fun _ _ h => h), R7, R5⟩
      clear h1 h2 h3 h4 o7 o8 k7 R7 R5 HK10
      go_upto_region 45 with fail
      generalize w11.heap.size = N7 at *
      generalize w11.alloc (.cells #[.bool p.la.th, .bool p.ne.th, .slice a7 p.la.bs.length c7, .int .u64 p.la.tk, .slice a8 p.ne.bs.length c8, .int .u64 p.ne.tk] 31) = w12 at *
      obtain ⟨h1, h2, h3, h4, h5, R7, R5⟩ := HK7.out
      have x0 : w12.cell? ⟨N5, 0, none⟩ = some (.bool p.la.th) := (cells_at R5 0).1
      have x1 : w12.cell? ⟨N5, 1, none⟩ = some (.bool p.ne.th) := (cells_at R5 1).1
      have x2 : w12.cell? ⟨N5, 2, none⟩ = some (.slice a5 p.la.bs.length c5) := (cells_at R5 2).1
      have x3 : w12.cell? ⟨N5, 3, none⟩ = some (.int .u64 p.la.tk) := (cells_at R5 3).1
      have x4 : w12.cell? ⟨N5, 4, none⟩ = some (.slice a6 p.ne.bs.length c6) := (cells_at R5 4).1
      have x5 : w12.cell? ⟨N5, 5, none⟩ = some (.int .u64 p.ne.tk) := (cells_at R5 5).1
      have y0 : w12.cell? ⟨N7, 0, none⟩ = some (.bool p.la.th) := (cells_at R7 0).1
      have y1 : w12.cell? ⟨N7, 1, none⟩ = some (.bool p.ne.th) := (cells_at R7 1).1
      have y2 : w12.cell? ⟨N7, 2, none⟩ = some (.slice a7 p.la.bs.length c7) := (cells_at R7 2).1
      have y3 : w12.cell? ⟨N7, 3, none⟩ = some (.int .u64 p.la.tk) := (cells_at R7 3).1
      have y4 : w12.cell? ⟨N7, 4, none⟩ = some (.slice a8 p.ne.bs.length c8) := (cells_at R7 4).1
      have y5 : w12.cell? ⟨N7, 5, none⟩ = some (.int .u64 p.ne.tk) := (cells_at R7 5).1
      have l1 : p.la.bs.length ≤ 140737488351232 := by have := h1.y.lo.l; have := h1.y.sz; omega
      have l2 : p.ne.bs.length ≤ 140737488351232 := by have := h1.y.no.l; have := h1.y.sz; omega
      have hS := sameState_eq w12 p.la.th p.ne.th p.la.bs p.ne.bs p.la.tk p.ne.tk _ _ _ _ (h2.bs l1) (h3.bs l2) (h4.bs l1) (h5.bs l2)
      clear h1 h2 h3 h4 h5 R5 R7 l1 l2
      go_wp2_with fail
      go_at_call 18
      refine hS.mono ?_
      rintro e w13 ⟨rfl, k13⟩
      have z0 := k13.cell x0
      have z3 := k13.cell x3
      have HKE : Hid (Kp W w13) := HK7.out.1.kp.trans k13
      have g1 : (p.la.tk == p.la.tk) = true := by simp
      have g2 : (p.la.th == p.la.th) = true := by simp
      clear hS k13 HK7 x0 x1 x2 x3 x4 x5 y0 y1 y2 y3 y4 y5
      go_wp2_with fail
      go_ret
      exact ⟨by rfl, HKE.out⟩
end Go.Proofs.Ytibpbemenjgncaa
