import Derived.Test.YtibpbemenjgncaaHl
namespace Go.Proofs.Ytibpbemenjgncaa
open Go.ChangeShapes Go.WideShapes Go.ChangeAt Go.RowKit
set_option linter.unusedVariables false
theorem may_260 {pw sz : Int} {l : List Int} (h : mayP pw sz l = true) : mayP pw (260 - sz) l = true ∧ 4 ≤ sz ∧ sz ≤ 256 := by
  unfold mayP at h ⊢
  simp only [Bool.and_eq_true] at h ⊢
  refine ⟨⟨h.1, ?_⟩, szB_ok h.2⟩
  have := h.2
  unfold szB at this ⊢
  simp at this ⊢
  omega
/-- A book that has nothing. -/
theorem BkA.mt {W w : World} {K : Nat} (hb : w.heap[K]? = some (.cells #[.slice none 0 0, .slice none 0 0, .slice none 0 0, .slice none 0 0, .slice none 0 0, .slice none 0 0, .slice none 0 0, .slice none 0 0, .slice none 0 0] 57 (0, 0))) (hK : W.heap.size ≤ K) : BkA W w (fun _ => 0) K (fun _ => .slice none 0 0) (fun _ => []) [] [] [] [] := by
  have nb : ∀ b, (Value.slice none 0 0).ownBlock = some b → False := fun b h => by simp [Value.ownBlock] at h
  refine ⟨⟨hb, fun i _ _ => World.ownsRow_nil _ _ _ _, fun i j b _ _ _ _ _ h => (nb b h).elim⟩, OB.nil _, Lb.nil _ _, fun j _ _ => ⟨[], OB.nil _, .inl rfl, Lb.nil _ _⟩, Rows.nil _ _ _, Rows.nil _ _ _, Rows.nil _ _ _, Rows.nil _ _ _, Rows.nil _ _ _, rfl, fun i e m h => by simp at h, by simp, fun e h => by simp at h, fun e h => by simp at h, fun e h => by simp at h, fun _ _ => rfl, fun _ _ => rfl, hK, fun i b _ _ h => (nb b h).elim⟩
set_option maxHeartbeats 16000000 in
set_option maxRecDepth 20000 in
theorem plays_walk (W : World) (pw sz : Int) (v : Value) (l : List Int) (hv : RdI W v l) (h0 : -9223372036854775808 ≤ pw) (h1 : pw ≤ 9223372036854775807)
    (a : Option Addr) (cap : Nat) (os : List OpV) (hO : OpsIn W a os) :
    Calls Try.prog 7 #[.agg #[.int .i64 pw, .int .i64 sz, v], .slice a os.length cap] W fun e w' => e = .returned (.bool true) ∧ Kp W w' := by
  obtain ⟨av, ac, rfl⟩ := hv.vshape
  have hlen := hO.len
  have HO : Hid (OpsIn W a os) := hO
  have HV : Hid (RdI W (.slice av l.length ac) l) := hv
  have H0 : Hid (Kp W (W.alloc (.cells #[.int .i64 pw, .int .i64 sz, .slice av l.length ac] 43)) ∧ (W.alloc (.cells #[.int .i64 pw, .int .i64 sz, .slice av l.length ac] 43)).heap[W.heap.size]? = some (.cells #[.int .i64 pw, .int .i64 sz, .slice av l.length ac] 43 (0, 0)) ∧ W.heap.size ≤ W.heap.size) := ⟨Kp.al _ _, heap_alloc_new _ _, Nat.le_refl _⟩
  clear hv hO h0 h1
  go_enter Try.func7, Try.ntmps7
  go_upto_region 1 with fail
  generalize W.alloc (.cells #[.int .i64 pw, .int .i64 sz, .slice av l.length ac] 43) = w0 at *
  obtain ⟨N, hN⟩ : ∃ N, W.heap.size = N := ⟨_, rfl⟩
  have HN : Hid (W.heap.size ≤ N ∧ w0.heap[N]? = some (.cells #[.int .i64 pw, .int .i64 sz, .slice av l.length ac] 43 (0, 0))) := ⟨Nat.le_of_eq hN, by rw [← hN]; exact H0.out.2.1⟩
  rw [hN]
  clear hN
  go_wp2_with fail
  go_at_call 8
  refine (known_any w0).mono ?_
  rintro e w1 ⟨rfl, k1⟩
  have H1 : Hid (Kp W w1 ∧ w1.heap[N]? = some (.cells #[.int .i64 pw, .int .i64 sz, .slice av l.length ac] 43 (0, 0))) := ⟨H0.out.1.trans k1, k1.heap HN.out.2⟩
  clear k1 H0
  have d0 : w1.cell? ⟨N, 0, none⟩ = some (.int .i64 pw) := (cells_at H1.out.2 0).1
  have d1 : w1.cell? ⟨N, 1, none⟩ = some (.int .i64 sz) := (cells_at H1.out.2 1).1
  have d2 : w1.cell? ⟨N, 2, none⟩ = some (.slice av l.length ac) := (cells_at H1.out.2 2).1
  go_wp2_with fail
  go_at_call 14
  refine (new_any w1 pw sz _ l (HV.out.kp H1.out.1)).mono ?_
  rintro e w2 ⟨k2, hc⟩
  have H2 : Hid (Kp W w2 ∧ w2.heap[N]? = some (.cells #[.int .i64 pw, .int .i64 sz, .slice av l.length ac] 43 (0, 0))) := ⟨H1.out.1.trans k2, k2.heap H1.out.2⟩
  have hs1 := H1.out.1.size
  clear d0 d1 d2
  have d0 : w2.cell? ⟨N, 0, none⟩ = some (.int .i64 pw) := (cells_at H2.out.2 0).1
  have d1 : w2.cell? ⟨N, 1, none⟩ = some (.int .i64 sz) := (cells_at H2.out.2 1).1
  have d2 : w2.cell? ⟨N, 2, none⟩ = some (.slice av l.length ac) := (cells_at H2.out.2 2).1
  rcases hc with ⟨hm, rfl⟩ | ⟨hm, B, rfl, hB, hP⟩
  · go_wp2_with fail
    go_at_call 15
    refine (fnew_any w2 pw sz _ l (HV.out.kp H2.out.1)).mono ?_
    rintro e w3 ⟨k3, hc⟩
    obtain ⟨_, rfl⟩ := hc.resolve_right (fun h => by rw [hm] at h; cases h.1)
    have H3 : Hid (Kp W w3) := H2.out.1.trans k3
    clear hc k3 H1 H2 hm
    go_wp2_with fail
    go_ret
    exact ⟨by rfl, H3.out⟩
  · have HM : Hid (mayP pw (260 - sz) l = true ∧ 4 ≤ sz ∧ sz ≤ 256) := may_260 hm
    have HP : Hid (IsP w2 B (.slice none 0 0) (.slice none 0 0) ⟨pw, sz, inF l, Ms.no, Ms.no⟩ false ∧ W.heap.size ≤ B) := ⟨hP, by omega⟩
    clear hP hB k2
    go_wp2_with fail
    go_at_call 15
    refine (fnew_any w2 pw sz _ l (HV.out.kp H2.out.1)).mono ?_
    rintro e w3 ⟨k3, hc⟩
    obtain ⟨_, F, vr, rfl, hF, nF, hI⟩ := hc.resolve_left (fun h => by rw [hm] at h; cases h.1)
    have hs2 := H2.out.1.size
    have H3 : Hid (Kp W w3 ∧ w3.heap[N]? = some (.cells #[.int .i64 pw, .int .i64 sz, .slice av l.length ac] 43 (0, 0)) ∧ IsP w3 B (.slice none 0 0) (.slice none 0 0) ⟨pw, sz, inF l, Ms.no, Ms.no⟩ false ∧ W.heap.size ≤ B ∧ IsF w3 F vr (.slice none 0 0) (.slice none 0 0) l ⟨pw, sz, inF l, Ms.no, Ms.no⟩ ∧ W.heap.size ≤ F) := ⟨H2.out.1.trans k3, k3.heap H2.out.2, HP.out.1.kp k3, HP.out.2, hI, by omega⟩
    clear hc k3 hF nF hI HP H1 H2 hm d0 d1 d2 hs1 hs2
    have d0 : w3.cell? ⟨N, 0, none⟩ = some (.int .i64 pw) := (cells_at H3.out.2.1 0).1
    have d1 : w3.cell? ⟨N, 1, none⟩ = some (.int .i64 sz) := (cells_at H3.out.2.1 1).1
    have d2 : w3.cell? ⟨N, 2, none⟩ = some (.slice av l.length ac) := (cells_at H3.out.2.1 2).1
    have f1 : w3.frozen? ⟨N, 1, none⟩ = false := (cells_at H3.out.2.1 1).2
    have hw : IntKind.i64.wrap (260 - sz) = 260 - sz := w64 (by have := HM.out; omega) (by have := HM.out; omega)
    have H4 : Hid (Kp W (w3.setCell ⟨N, 1, none⟩ (.int .i64 (260 - sz))) ∧ (w3.setCell ⟨N, 1, none⟩ (.int .i64 (260 - sz))).heap[N]? = some (.cells #[.int .i64 pw, .int .i64 (260 - sz), .slice av l.length ac] 43 (0, 0)) ∧ IsP (w3.setCell ⟨N, 1, none⟩ (.int .i64 (260 - sz))) B (.slice none 0 0) (.slice none 0 0) ⟨pw, sz, inF l, Ms.no, Ms.no⟩ false ∧ W.heap.size ≤ B ∧ IsF (w3.setCell ⟨N, 1, none⟩ (.int .i64 (260 - sz))) F vr (.slice none 0 0) (.slice none 0 0) l ⟨pw, sz, inF l, Ms.no, Ms.no⟩ ∧ W.heap.size ≤ F) := by
      obtain ⟨q1, q2, q3, q4, q5, q6⟩ := H3.out
      have cN : Chg w3 (w3.setCell ⟨N, 1, none⟩ (.int .i64 (260 - sz))) (fun k => k = N) := Chg.setCell (S := fun k => k = N) (Chg.refl w3 _) (.inl rfl) _
      have nB : B ≠ N := fun e => by have := q3.box; rw [e, q2] at this; simp at this
      have nF : F ≠ N := fun e => by have := q5.box; rw [e, q2] at this; simp at this
      refine ⟨Chg.trans q1 cN (fun i hi e => by have := HN.out.1; omega), ?_, q3.chg cN nB (fun k hk => by simp [Value.ownBlock] at hk) (fun k hk => by simp [Value.ownBlock] at hk), q4, q5.chg cN nF (fun k hk e => by subst e; exact q5.r.no q2 (by decide) hk) (fun k hk => by simp [Value.ownBlock] at hk) (fun k hk => by simp [Value.ownBlock] at hk), q6⟩
      rw [heap_setCell_same w3 N 1 _ 43 _ q2]
      rfl
    go_upto_region 9 with fail
    generalize w3.setCell ⟨N, 1, none⟩ (.int .i64 (260 - sz)) = w4 at *
    clear d0 d1 d2 f1 H3
    have d0 : w4.cell? ⟨N, 0, none⟩ = some (.int .i64 pw) := (cells_at H4.out.2.1 0).1
    have d1 : w4.cell? ⟨N, 1, none⟩ = some (.int .i64 (260 - sz)) := (cells_at H4.out.2.1 1).1
    have d2 : w4.cell? ⟨N, 2, none⟩ = some (.slice av l.length ac) := (cells_at H4.out.2.1 2).1
    generalize h260 : 260 - sz = sy at *
    have HSY : Hid (260 - sz = sy) := h260
    clear h260 hw
    go_wp2_with fail
    go_at_call 14
    refine (new_any w4 pw sy _ l (HV.out.kp H4.out.1)).mono ?_
    rintro e w5 ⟨k5, hc⟩
    obtain ⟨_, C, rfl, hC, hP⟩ := hc.resolve_left (fun h => by rw [HM.out.1] at h; cases h.1)
    have hs4 := H4.out.1.size
    have H5 : Hid (Kp W w5 ∧ w5.heap[N]? = some (.cells #[.int .i64 pw, .int .i64 sy, .slice av l.length ac] 43 (0, 0)) ∧ IsP w5 B (.slice none 0 0) (.slice none 0 0) ⟨pw, sz, inF l, Ms.no, Ms.no⟩ false ∧ W.heap.size ≤ B ∧ IsF w5 F vr (.slice none 0 0) (.slice none 0 0) l ⟨pw, sz, inF l, Ms.no, Ms.no⟩ ∧ W.heap.size ≤ F ∧ IsP w5 C (.slice none 0 0) (.slice none 0 0) ⟨pw, sy, inF l, Ms.no, Ms.no⟩ false ∧ W.heap.size ≤ C ∧ B ≠ C) := by
      obtain ⟨q1, q2, q3, q4, q5, q6⟩ := H4.out
      exact ⟨q1.trans k5, k5.heap q2, q3.kp k5, q4, q5.kp k5, q6, hP, by omega, by have := q3.lt; omega⟩
    clear hc k5 hC hP H4 d0 d1 d2 hs4
    have d0 : w5.cell? ⟨N, 0, none⟩ = some (.int .i64 pw) := (cells_at H5.out.2.1 0).1
    have d1 : w5.cell? ⟨N, 1, none⟩ = some (.int .i64 sy) := (cells_at H5.out.2.1 1).1
    have d2 : w5.cell? ⟨N, 2, none⟩ = some (.slice av l.length ac) := (cells_at H5.out.2.1 2).1
    go_wp2_with fail
    go_at_call 15
    refine (fnew_any w5 pw sy _ l (HV.out.kp H5.out.1)).mono ?_
    rintro e w6 ⟨k6, hc⟩
    obtain ⟨_, G, vr2, rfl, hG, nG, hI⟩ := hc.resolve_left (fun h => by rw [HM.out.1] at h; cases h.1)
    have HI0 : Hid (PlI W (w6.alloc (.cells #[.slice none 0 0, .slice none 0 0, .slice none 0 0, .slice none 0 0, .slice none 0 0, .slice none 0 0, .slice none 0 0, .slice none 0 0, .slice none 0 0] 57)) w6.heap.size [] [] [] B F C G ⟨pw, sz, inF l, Ms.no, Ms.no⟩ ⟨pw, sy, inF l, Ms.no, Ms.no⟩ (fun _ => 0) (fun _ => .slice none 0 0) (fun _ => []) []) := by
      obtain ⟨q1, q2, q3, q4, q5, q6, q7, q8, q9⟩ := H5.out
      have kA := Kp.al w6 (.cells #[.slice none 0 0, .slice none 0 0, .slice none 0 0, .slice none 0 0, .slice none 0 0, .slice none 0 0, .slice none 0 0, .slice none 0 0, .slice none 0 0] 57)
      have kk := k6.trans kA
      have s5 := q1.size
      have s6 := (q1.trans k6).size
      exact ⟨q1.trans kk, BkA.mt (heap_alloc_new _ _) s6, ⟨q4, _, _, _, q3.kp kk, Lb.nil _ _, Lb.nil _ _⟩, ⟨q6, _, _, _, _, q5.kp kk, Lb.nil _ _, Lb.nil _ _⟩, ⟨q8, _, _, _, q7.kp kk, Lb.nil _ _, Lb.nil _ _⟩, ⟨by omega, _, _, _, _, hI.kp kA, Lb.nil _ _, Lb.nil _ _⟩, q9, by have := hp_lt q5.box; omega⟩
    clear hc k6 hG nG hI H5 d0 d1 d2
    go_upto_region 14 with fail
    generalize w6.alloc (.cells #[.slice none 0 0, .slice none 0 0, .slice none 0 0, .slice none 0 0, .slice none 0 0, .slice none 0 0, .slice none 0 0, .slice none 0 0, .slice none 0 0] 57) = w7 at *
    generalize w6.heap.size = K at *
    go_wp2_with fail
    go_loopw [15, 16, 17, 18, 19, 20, 21, 22] (fun s15 s16 s17 s18 s19 s20 s21 s22 wr => ∃ (i : Nat) (hd ll : List Ent) (p q : PS) (σ : Nat → Nat) (V : Nat → Value) (X : Nat → List Value) (MM : List Int), s15 = .int .i64 i ∧ i ≤ os.length ∧ i ≤ 200 ∧ Hid (PlI W wr K [] hd ll B F C G p q σ V X MM ∧ hd.length ≤ 8 ∧ ll.length ≤ 16 * i)) (fun s15 _ _ _ _ _ _ _ _ => 200 - nI s15)
    case atStart => exact ⟨0, [], [], _, _, _, _, _, [], rfl, by omega, by omega, HI0.out, by simp, by simp⟩
    case round =>
      obtain ⟨i, hd, ll, p, q, σ, V, X, MM, rfl, hi, hi2, HI⟩ := hrel
      clear HI0
      by_cases hlt : i < os.length ∧ i < 200
      · have hz1 : (i : Int) < (os.length : Int) := by omega
        have hz2 : (i : Int) < 200 := by omega
        rcases HO.out.c with e | ⟨b, o, rfl, hcc⟩
        · rw [e] at hlt; simp at hlt
        have hr := range_kp (hcc (i) hlt.1) HI.out.1.kp
        have HD : Hid (os[i].data W) := HO.out.d (i) hlt.1
        generalize os[i] = ov at hr HD
        obtain ⟨kd, ce, tk, vv, bs, th, nt, v1, b1, t1, v2, b2, t2⟩ := ov
        obtain ⟨va, vc, hva⟩ := HD.out.b.vshape
        obtain ⟨va1, vc1, hva1⟩ := HD.out.b1.vshape
        obtain ⟨va2, vc2, hva2⟩ := HD.out.b2.vshape
        simp only at hva hva1 hva2
        subst hva hva1 hva2
        unfold opC at hr
        simp only at hr
        have r0 := hr 0 _ rfl
        have r1 := hr 1 _ rfl
        have r2 := hr 2 _ rfl
        have r3 := hr 3 _ rfl
        have r4 := hr 4 _ rfl
        have r5 := hr 5 _ rfl
        have r6 := hr 6 _ rfl
        have r7 := hr 7 _ rfl
        have r8 := hr 8 _ rfl
        have r9 := hr 9 _ rfl
        simp only [Nat.add_zero] at r0
        clear hr
        go_wp2_with fail
        go_at_call 20
        refine (step_any W wr σ K V X MM [] hd ll B F p ⟨HI.out.1.kp, HI.out.1.bk, HI.out.1.x, HI.out.1.y, by simp⟩ ⟨kd, ce, tk, .slice va bs.length vc, bs, th, nt, .slice va1 b1.length vc1, b1, t1, .slice va2 b2.length vc2, b2, t2⟩ HD.out).mono ?_
        rintro e w8 ⟨rfl, hS⟩
        obtain ⟨f1, p1, σ1, V1, X1, hf1, hI1⟩ := HI.out.1.step hS
        have H8 : Hid (PlI W w8 K ([] ++ f1) hd ll B F C G p1 q σ1 V1 X1 MM ∧ f1.length ≤ 4 ∧ hd.length ≤ 8 ∧ ll.length ≤ 16 * i) := ⟨hI1, hf1, HI.out.2⟩
        clear hS hI1 hf1 HI
        clear r0 r1 r2 r3 r4 r5 r6 r7 r8 r9 HD

        obtain ⟨j, hj⟩ : ∃ j, os.length - 1 - i = j := ⟨_, rfl⟩
        have hjl : j < os.length := by omega
        have hj1 : (j : Int) < (os.length : Int) := by omega
        have hj3 : IntKind.i64.wrap ((os.length : Int) - 1) = (os.length : Int) - 1 := w64 (by omega) (by omega)
        have hj4 : IntKind.i64.wrap ((os.length : Int) - 1 - (i : Int)) = (j : Int) := by rw [w64 (by omega) (by omega)]; omega
        clear hj
        have hr := range_kp (hcc (j) hjl) H8.out.1.kp
        have HD : Hid (os[j].data W) := HO.out.d (j) hjl
        generalize os[j] = ov at hr HD
        obtain ⟨kd, ce, tk, vv, bs, th, nt, v1, b1, t1, v2, b2, t2⟩ := ov
        obtain ⟨va, vc, hva⟩ := HD.out.b.vshape
        obtain ⟨va1, vc1, hva1⟩ := HD.out.b1.vshape
        obtain ⟨va2, vc2, hva2⟩ := HD.out.b2.vshape
        simp only at hva hva1 hva2
        subst hva hva1 hva2
        unfold opC at hr
        simp only at hr
        have r0 := hr 0 _ rfl
        have r1 := hr 1 _ rfl
        have r2 := hr 2 _ rfl
        have r3 := hr 3 _ rfl
        have r4 := hr 4 _ rfl
        have r5 := hr 5 _ rfl
        have r6 := hr 6 _ rfl
        have r7 := hr 7 _ rfl
        have r8 := hr 8 _ rfl
        have r9 := hr 9 _ rfl
        simp only [Nat.add_zero] at r0
        clear hr
        go_wp2_with fail
        go_at_call 20
        refine (step_any W w8 σ1 K V1 X1 MM ([] ++ f1) hd ll C G q ⟨H8.out.1.kp, H8.out.1.bk, H8.out.1.z, H8.out.1.v, by have := H8.out.2.1; simp; omega⟩ ⟨kd, ce, tk, .slice va bs.length vc, bs, th, nt, .slice va1 b1.length vc1, b1, t1, .slice va2 b2.length vc2, b2, t2⟩ HD.out).mono ?_
        rintro e w9 ⟨rfl, hS⟩
        obtain ⟨f2, q1, σ2, V2, X2, hf2, hI2⟩ := H8.out.1.sym.step hS
        have H9 : Hid (PlI W w9 K (([] ++ f1) ++ f2) hd ll B F C G p1 q1 σ2 V2 X2 MM ∧ f1.length ≤ 4 ∧ f2.length ≤ 4 ∧ hd.length ≤ 8 ∧ ll.length ≤ 16 * i) := ⟨hI2.sym, H8.out.2.1, hf2, H8.out.2.2⟩
        clear hS hI2 hf2 H8 hjl hj1 hj3 hj4
        clear r0 r1 r2 r3 r4 r5 r6 r7 r8 r9 HD
        go_wp2_with fail
        go_at_call 17
        refine (H9.out.1.x.state).mono ?_
        rintro e ya ⟨r1, u1, rfl, o1, o2, k2, _, _, _⟩
        obtain ⟨a1, c1, rfl⟩ := o1.shape
        obtain ⟨e1, g1, rfl⟩ := o2.shape
        have HS1 : Hid (PlI W (ya.alloc (.cells #[.bool p1.la.th, .bool p1.ne.th, .slice a1 p1.la.bs.length c1, .int .u64 p1.la.tk, .slice e1 p1.ne.bs.length g1, .int .u64 p1.ne.tk] 31)) K (([] ++ f1) ++ f2) hd ll B F C G p1 q1 σ2 V2 X2 MM ∧ OB (ya.alloc (.cells #[.bool p1.la.th, .bool p1.ne.th, .slice a1 p1.la.bs.length c1, .int .u64 p1.la.tk, .slice e1 p1.ne.bs.length g1, .int .u64 p1.ne.tk] 31)) (.slice a1 p1.la.bs.length c1) p1.la.bs ∧ OB (ya.alloc (.cells #[.bool p1.la.th, .bool p1.ne.th, .slice a1 p1.la.bs.length c1, .int .u64 p1.la.tk, .slice e1 p1.ne.bs.length g1, .int .u64 p1.ne.tk] 31)) (.slice e1 p1.ne.bs.length g1) p1.ne.bs ∧ (ya.alloc (.cells #[.bool p1.la.th, .bool p1.ne.th, .slice a1 p1.la.bs.length c1, .int .u64 p1.la.tk, .slice e1 p1.ne.bs.length g1, .int .u64 p1.ne.tk] 31)).heap[ya.heap.size]? = some (.cells #[.bool p1.la.th, .bool p1.ne.th, .slice a1 p1.la.bs.length c1, .int .u64 p1.la.tk, .slice e1 p1.ne.bs.length g1, .int .u64 p1.ne.tk] 31 (0, 0))) := ⟨H9.out.1.al (Chg.alloc k2 _), Chg.owns (Kp.al _ _) o1 (fun _ _ h => h), Chg.owns (Kp.al _ _) o2 (fun _ _ h => h), heap_alloc_new _ _⟩
        have HX1 := H9.out.2
        clear o1 o2 k2 H9
        go_upto_region 20 with fail
        generalize ya.alloc (.cells #[.bool p1.la.th, .bool p1.ne.th, .slice a1 p1.la.bs.length c1, .int .u64 p1.la.tk, .slice e1 p1.ne.bs.length g1, .int .u64 p1.ne.tk] 31) = yb at *
        generalize ya.heap.size = A1 at *
        have h256 := HS1.out.1.x.s256
        have h21 : Calls Try.prog 21 #[.pointer (some ⟨F, 0, none⟩)] yb.drew fun e z1 => ∃ r2, e = .returned r2 ∧ (fun w' => w'.cell? ⟨A1, 0, none⟩ = some (.bool p1.la.th) ∧ w'.cell? ⟨A1, 1, none⟩ = some (.bool p1.ne.th) ∧ w'.cell? ⟨A1, 2, none⟩ = some (.slice a1 p1.la.bs.length c1) ∧ w'.cell? ⟨A1, 3, none⟩ = some (.int .u64 p1.la.tk) ∧ w'.cell? ⟨A1, 4, none⟩ = some (.slice e1 p1.ne.bs.length g1) ∧ w'.cell? ⟨A1, 5, none⟩ = some (.int .u64 p1.ne.tk)) z1 ∧ Calls Try.prog 18 #[.agg #[.bool p1.la.th, .bool p1.ne.th, .slice a1 p1.la.bs.length c1, .int .u64 p1.la.tk, .slice e1 p1.ne.bs.length g1, .int .u64 p1.ne.tk], r2] z1 fun e z2 => e = .returned (.bool true) ∧ (fun w' => w'.cell? ⟨A1, 0, none⟩ = some (.bool p1.la.th) ∧ w'.cell? ⟨A1, 1, none⟩ = some (.bool p1.ne.th) ∧ w'.cell? ⟨A1, 2, none⟩ = some (.slice a1 p1.la.bs.length c1) ∧ w'.cell? ⟨A1, 3, none⟩ = some (.int .u64 p1.la.tk) ∧ w'.cell? ⟨A1, 4, none⟩ = some (.slice e1 p1.ne.bs.length g1) ∧ w'.cell? ⟨A1, 5, none⟩ = some (.int .u64 p1.ne.tk)) z2 ∧ Kp yb z2 := by
          obtain ⟨j1, j2, j3, j4⟩ := HS1.out
          refine ((j1.y.kp (Kp.drew _)).state).mono ?_
          rintro e z1 ⟨r2, u2, rfl, o3, o4, k3, _, _⟩
          have kk := (Kp.drew yb).trans k3
          have b1 := kk.heap j4
          refine ⟨_, rfl, ⟨(cells_at b1 0).1, (cells_at b1 1).1, (cells_at b1 2).1, (cells_at b1 3).1, (cells_at b1 4).1, (cells_at b1 5).1⟩, ?_⟩
          refine (sameState_eq z1 p1.la.th p1.ne.th p1.la.bs p1.ne.bs p1.la.tk p1.ne.tk _ _ _ _ ((j2.bs (by omega)).kp kk) ((j3.bs (by omega)).kp kk) (o3.bs (by omega)) (o4.bs (by omega))).mono ?_
          rintro e z2 ⟨rfl, k4⟩
          have b2 := k4.heap b1
          exact ⟨rfl, ⟨(cells_at b2 0).1, (cells_at b2 1).1, (cells_at b2 2).1, (cells_at b2 3).1, (cells_at b2 4).1, (cells_at b2 5).1⟩, kk.trans k4⟩
        have hb0 := HS1.out.2.2.2
        refine reg7_20 yb A1 F p1.la.bs.length c1 p1.ne.bs.length g1 a1 e1 p1.la.th p1.ne.th p1.la.tk p1.ne.tk ⟨(cells_at hb0 0).1, (cells_at hb0 1).1, (cells_at hb0 2).1, (cells_at hb0 3).1, (cells_at hb0 4).1, (cells_at hb0 5).1⟩ _ h21 _ (fun _ _ _ q _ h => by cases q <;> exact h) ?_
        intro rr1 yc kc
        have HT1 : Hid (PlI W yc K (([] ++ f1) ++ f2) hd ll B F C G p1 q1 σ2 V2 X2 MM ∧ f1.length ≤ 4 ∧ f2.length ≤ 4 ∧ hd.length ≤ 8 ∧ ll.length ≤ 16 * i) := ⟨HS1.out.1.al kc, HX1⟩
        clear h21 hb0 kc HS1 HX1 h256
        go_wp2_with fail
        go_at_call 17
        refine (HT1.out.1.z.state).mono ?_
        rintro e xa ⟨r1, u1, rfl, o1, o2, k2, _, _, _⟩
        obtain ⟨a1, c1, rfl⟩ := o1.shape
        obtain ⟨e1, g1, rfl⟩ := o2.shape
        have HS2 : Hid (PlI W (xa.alloc (.cells #[.bool q1.la.th, .bool q1.ne.th, .slice a1 q1.la.bs.length c1, .int .u64 q1.la.tk, .slice e1 q1.ne.bs.length g1, .int .u64 q1.ne.tk] 31)) K (([] ++ f1) ++ f2) hd ll B F C G p1 q1 σ2 V2 X2 MM ∧ OB (xa.alloc (.cells #[.bool q1.la.th, .bool q1.ne.th, .slice a1 q1.la.bs.length c1, .int .u64 q1.la.tk, .slice e1 q1.ne.bs.length g1, .int .u64 q1.ne.tk] 31)) (.slice a1 q1.la.bs.length c1) q1.la.bs ∧ OB (xa.alloc (.cells #[.bool q1.la.th, .bool q1.ne.th, .slice a1 q1.la.bs.length c1, .int .u64 q1.la.tk, .slice e1 q1.ne.bs.length g1, .int .u64 q1.ne.tk] 31)) (.slice e1 q1.ne.bs.length g1) q1.ne.bs ∧ (xa.alloc (.cells #[.bool q1.la.th, .bool q1.ne.th, .slice a1 q1.la.bs.length c1, .int .u64 q1.la.tk, .slice e1 q1.ne.bs.length g1, .int .u64 q1.ne.tk] 31)).heap[xa.heap.size]? = some (.cells #[.bool q1.la.th, .bool q1.ne.th, .slice a1 q1.la.bs.length c1, .int .u64 q1.la.tk, .slice e1 q1.ne.bs.length g1, .int .u64 q1.ne.tk] 31 (0, 0))) := ⟨HT1.out.1.al (Chg.alloc k2 _), Chg.owns (Kp.al _ _) o1 (fun _ _ h => h), Chg.owns (Kp.al _ _) o2 (fun _ _ h => h), heap_alloc_new _ _⟩
        have HX2 := HT1.out.2
        clear o1 o2 k2 HT1
        go_upto_region 22 with fail
        generalize xa.alloc (.cells #[.bool q1.la.th, .bool q1.ne.th, .slice a1 q1.la.bs.length c1, .int .u64 q1.la.tk, .slice e1 q1.ne.bs.length g1, .int .u64 q1.ne.tk] 31) = xb at *
        generalize xa.heap.size = A2 at *
        have h256 := HS2.out.1.z.s256
        have h21 : Calls Try.prog 21 #[.pointer (some ⟨G, 0, none⟩)] xb.drew fun e z1 => ∃ r2, e = .returned r2 ∧ (fun w' => w'.cell? ⟨A2, 0, none⟩ = some (.bool q1.la.th) ∧ w'.cell? ⟨A2, 1, none⟩ = some (.bool q1.ne.th) ∧ w'.cell? ⟨A2, 2, none⟩ = some (.slice a1 q1.la.bs.length c1) ∧ w'.cell? ⟨A2, 3, none⟩ = some (.int .u64 q1.la.tk) ∧ w'.cell? ⟨A2, 4, none⟩ = some (.slice e1 q1.ne.bs.length g1) ∧ w'.cell? ⟨A2, 5, none⟩ = some (.int .u64 q1.ne.tk)) z1 ∧ Calls Try.prog 18 #[.agg #[.bool q1.la.th, .bool q1.ne.th, .slice a1 q1.la.bs.length c1, .int .u64 q1.la.tk, .slice e1 q1.ne.bs.length g1, .int .u64 q1.ne.tk], r2] z1 fun e z2 => e = .returned (.bool true) ∧ (fun w' => w'.cell? ⟨A2, 0, none⟩ = some (.bool q1.la.th) ∧ w'.cell? ⟨A2, 1, none⟩ = some (.bool q1.ne.th) ∧ w'.cell? ⟨A2, 2, none⟩ = some (.slice a1 q1.la.bs.length c1) ∧ w'.cell? ⟨A2, 3, none⟩ = some (.int .u64 q1.la.tk) ∧ w'.cell? ⟨A2, 4, none⟩ = some (.slice e1 q1.ne.bs.length g1) ∧ w'.cell? ⟨A2, 5, none⟩ = some (.int .u64 q1.ne.tk)) z2 ∧ Kp xb z2 := by
          obtain ⟨j1, j2, j3, j4⟩ := HS2.out
          refine ((j1.v.kp (Kp.drew _)).state).mono ?_
          rintro e z1 ⟨r2, u2, rfl, o3, o4, k3, _, _⟩
          have kk := (Kp.drew xb).trans k3
          have b1 := kk.heap j4
          refine ⟨_, rfl, ⟨(cells_at b1 0).1, (cells_at b1 1).1, (cells_at b1 2).1, (cells_at b1 3).1, (cells_at b1 4).1, (cells_at b1 5).1⟩, ?_⟩
          refine (sameState_eq z1 q1.la.th q1.ne.th q1.la.bs q1.ne.bs q1.la.tk q1.ne.tk _ _ _ _ ((j2.bs (by omega)).kp kk) ((j3.bs (by omega)).kp kk) (o3.bs (by omega)) (o4.bs (by omega))).mono ?_
          rintro e z2 ⟨rfl, k4⟩
          have b2 := k4.heap b1
          exact ⟨rfl, ⟨(cells_at b2 0).1, (cells_at b2 1).1, (cells_at b2 2).1, (cells_at b2 3).1, (cells_at b2 4).1, (cells_at b2 5).1⟩, kk.trans k4⟩
        have hb0 := HS2.out.2.2.2
        refine reg7_22 xb A2 G q1.la.bs.length c1 q1.ne.bs.length g1 a1 e1 q1.la.th q1.ne.th q1.la.tk q1.ne.tk ⟨(cells_at hb0 0).1, (cells_at hb0 1).1, (cells_at hb0 2).1, (cells_at hb0 3).1, (cells_at hb0 4).1, (cells_at hb0 5).1⟩ _ h21 _ (fun _ _ _ q _ h => by cases q <;> exact h) ?_
        intro rr2 xc kc
        have HT2 : Hid (PlI W xc K (([] ++ f1) ++ f2) hd ll B F C G p1 q1 σ2 V2 X2 MM ∧ f1.length ≤ 4 ∧ f2.length ≤ 4 ∧ hd.length ≤ 8 ∧ ll.length ≤ 16 * i) := ⟨HS2.out.1.al kc, HX2⟩
        clear h21 hb0 kc HS2 HX2 h256
        go_wp2_with fail
        go_at_call 22
        refine (looks_any W xc σ2 K V2 X2 MM _ hd ll HT2.out.1.bk HT2.out.1.kp.size (by have := HT2.out.2; omega)).mono ?_
        rintro e wl ⟨rfl, hL⟩
        obtain ⟨ll', σ3, V3, X3, MM3, hl3, hI3⟩ := HT2.out.1.look hL
        have HN3 : Hid (PlI W wl K [] (([] ++ f1) ++ f2) ll' B F C G p1 q1 σ3 V3 X3 MM3 ∧ (([] ++ f1) ++ f2).length ≤ 8 ∧ ll'.length ≤ 16 * (i + 1)) := ⟨hI3, by have := HT2.out.2; simp; omega, by have := HT2.out.2; omega⟩
        clear hL hl3 hI3 HT2
        go_wp2_with fail
        exact ⟨⟨i + 1, _, ll', p1, q1, σ3, V3, X3, MM3, by go_num, by omega, by omega, HN3⟩, by simp [nI]; omega⟩
      · by_cases q1 : i < os.length
        · have q2 : ¬ (i : Int) < 200 := fun h => hlt ⟨q1, by omega⟩
          have q1' : (i : Int) < (os.length : Int) := by omega
          go_wp2_with fail
          go_at_call 22
          refine (looks_any W wr σ K V X MM [] hd ll HI.out.1.bk HI.out.1.kp.size (by have := HI.out.2; omega)).mono ?_
          rintro e w8 ⟨rfl, hL⟩
          obtain ⟨ll', σ3, V3, X3, MM3, hl3, hI3⟩ := HI.out.1.look hL
          have H8 : Hid (PlI W w8 K [] [] ll' B F C G p q σ3 V3 X3 MM3 ∧ ll'.length ≤ 10000) := ⟨hI3, by have := HI.out.2; omega⟩
          clear hL hl3 hI3 HI
          go_wp2_with fail
          go_at_call 22
          refine (looks_any W w8 σ3 K V3 X3 MM3 [] [] ll' H8.out.1.bk H8.out.1.kp.size (by have := H8.out.2; simp; omega)).mono ?_
          rintro e w9 ⟨rfl, hL⟩
          obtain ⟨ll2, σ4, V4, X4, MM4, hl4, hI4⟩ := H8.out.1.look hL
          have H9 : Hid (Kp W w9) := hI4.kp
          clear hL hl4 hI4 H8
          go_wp2_with fail
          go_ret
          exact ⟨by rfl, H9.out⟩
        · have q1' : ¬ (i : Int) < (os.length : Int) := by omega
          go_wp2_with fail
          go_at_call 22
          refine (looks_any W wr σ K V X MM [] hd ll HI.out.1.bk HI.out.1.kp.size (by have := HI.out.2; omega)).mono ?_
          rintro e w8 ⟨rfl, hL⟩
          obtain ⟨ll', σ3, V3, X3, MM3, hl3, hI3⟩ := HI.out.1.look hL
          have H8 : Hid (PlI W w8 K [] [] ll' B F C G p q σ3 V3 X3 MM3 ∧ ll'.length ≤ 10000) := ⟨hI3, by have := HI.out.2; omega⟩
          clear hL hl3 hI3 HI
          go_wp2_with fail
          go_at_call 22
          refine (looks_any W w8 σ3 K V3 X3 MM3 [] [] ll' H8.out.1.bk H8.out.1.kp.size (by have := H8.out.2; simp; omega)).mono ?_
          rintro e w9 ⟨rfl, hL⟩
          obtain ⟨ll2, σ4, V4, X4, MM4, hl4, hI4⟩ := H8.out.1.look hL
          have H9 : Hid (Kp W w9) := hI4.kp
          clear hL hl4 hI4 H8
          go_wp2_with fail
          go_ret
          exact ⟨by rfl, H9.out⟩
end Go.Proofs.Ytibpbemenjgncaa
