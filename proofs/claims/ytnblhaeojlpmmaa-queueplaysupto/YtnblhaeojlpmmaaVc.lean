import Derived.Test.YtnblhaeojlpmmaaVe
namespace Go.Proofs.Ytnblhaeojlpmmaa
open Go.ChangeShapes Go.WideShapes Go.ChangeAt Go.RowKit
set_option linter.unusedVariables false
set_option maxHeartbeats 24000000 in
set_option maxRecDepth 10000 in
theorem step_send (W w : World) (σ : Nat → Nat × Nat) (K : Nat) (U : Nat → Value) (b : BS) (P Q : PT) (kd c tk : Int) (dv : Value) (bs : List Int) (x : SV) (st : Bool) (g h o r l d : Nat) (HB : StB W w σ K U b P Q kd c tk dv bs x st g h o r l d) (kk : Int) (h012 : kk = 0 ∨ kk = 1 ∨ kk = 2) (hk : pk kd 8 = kk) :
    Calls Try.prog 17 #[.pointer (some ⟨K, 0, none⟩), .agg (scs kd c tk dv x)] w fun e w' => e = .returned (.bool true) ∧ StE W w σ K U P st g h o r l d w' := by
  have H012 : Hid (kk = 0 ∨ kk = 1 ∨ kk = 2) := h012
  clear h012
  obtain ⟨va, vc, eva⟩ := HB.xr.hq.vshape
  obtain ⟨vb, vd, evb⟩ := HB.xr.hs.vshape
  obtain ⟨da, dc, eda, hdc⟩ := HB.dc
  have hbl := HB.bl
  have HH : Hid (StB W w σ K U b P Q kd c tk dv bs x st g h o r l d) := HB
  have EV : Hid (x.vq = .slice va x.lq.length vc ∧ x.vs = .slice vb x.ls.length vd ∧ dv = .slice da bs.length dc) := ⟨eva, evb, eda⟩
  have HI0 : Hid (∀ dv', SI W w σ K U w.heap.size (scs kd c tk dv' x) (w.alloc (.cells (scs kd c tk dv' x) 66)) σ b P Q) := fun dv' => by
    have k0 := Kp.al w (.cells (scs kd c tk dv' x) 66)
    have hb := heap_alloc_new w (.cells (scs kd c tk dv' x) 66)
    exact ⟨HB.pl.kp k0, Sd.kp k0, hb, HB.pl.bk.m.fz _ (Nat.le_refl _), Nat.le_refl _, HB.pl.kW.size⟩
  have HK : Hid (pk kd 8 = kk ∧ -9223372036854775808 ≤ kd ∧ kd ≤ 9223372036854775807) := ⟨hk, HB.kr⟩
  unfold scs at HI0 ⊢
  rw [eva, evb] at HI0 ⊢
  rw [eda]
  obtain ⟨n, hn⟩ : ∃ n, n = bs.length := ⟨_, rfl⟩
  have HN : Hid (n = bs.length) := hn
  rw [← hn] at hdc hbl ⊢
  obtain ⟨n1, hn1⟩ : ∃ n, n = x.lq.length := ⟨_, rfl⟩
  obtain ⟨n2, hn2⟩ : ∃ n, n = x.ls.length := ⟨_, rfl⟩
  have NX : Hid (n1 = x.lq.length ∧ n2 = x.ls.length) := ⟨hn1, hn2⟩
  rw [← hn1, ← hn2] at HI0 ⊢
  obtain ⟨a0, h0⟩ : ∃ a, a = x.ac := ⟨_, rfl⟩
  obtain ⟨a1, h1⟩ : ∃ a, a = x.rc := ⟨_, rfl⟩
  obtain ⟨a2, h2⟩ : ∃ a, a = x.q := ⟨_, rfl⟩
  obtain ⟨a3, h3⟩ : ∃ a, a = x.t := ⟨_, rfl⟩
  obtain ⟨a4, h4⟩ : ∃ a, a = x.lo := ⟨_, rfl⟩
  have AX : Hid (a0 = x.ac ∧ a1 = x.rc ∧ a2 = x.q ∧ a3 = x.t ∧ a4 = x.lo) := ⟨h0, h1, h2, h3, h4⟩
  rw [← h0, ← h1, ← h2, ← h3, ← h4] at HI0 ⊢
  clear HB eva evb eda hk hn hn1 hn2 h0 h1 h2 h3 h4
  go_enter Try.func17, Try.ntmps17
  go_upto_if 37 with fail
  go_cut [4] from 38 to 41 (fun s4 wx => s4 = .bool false ∧ Hid (∃ (dv' : Value) (bs' : List Int), Bs W dv' bs' ∧ bs'.length ≤ 300 ∧ SI W w σ K U w.heap.size #[.int .i64 kd, .int .i64 c, .int .u64 tk, dv', .int .i64 a0, .int .i64 a1, .int .i64 a2, .int .i64 a3, .int .i64 a4, .slice va n1 vc, .slice vb n2 vd] wx σ b P Q))
  case first =>
    as_aux_lemma =>
      by_cases hlen : 300 < n
      · have hz : (300 : Int) < (n : Nat) := by omega
        have hz2 : (300 : Int) ≤ (dc : Nat) := by omega
        go_wp2_with fail
        go_meet
        refine ⟨rfl, ⟨_, _, Bs.take300 (n := n) (c := dc) (a := da) (bs := bs) (by have := HH.out.dvb; rw [EV.out.2.2, ← HN.out] at this; exact this) (by rw [← HN.out]; exact hlen), by simp; omega, HI0.out _⟩⟩
      · have hz : ¬ (300 : Int) < (n : Nat) := by omega
        go_wp2_with fail
        go_meet
        refine ⟨rfl, ⟨_, _, by have := HH.out.dvb; rw [EV.out.2.2, ← HN.out] at this; exact this, by rw [← HN.out]; omega, HI0.out _⟩⟩
  case rest =>
    obtain ⟨rfl, HC⟩ := hcut
    obtain ⟨dv', bs', hdv', hbl', HI⟩ := HC.out
    obtain ⟨A, hA⟩ : ∃ A, w.heap.size = A := ⟨_, rfl⟩
    rw [hA] at HI ⊢
    have HS : Hid (SI W w σ K U A #[.int .i64 kd, .int .i64 c, .int .u64 tk, dv', .int .i64 a0, .int .i64 a1, .int .i64 a2, .int .i64 a3, .int .i64 a4, .slice va n1 vc, .slice vb n2 vd] wc σ b P Q ∧ Bs W dv' bs') := ⟨HI, hdv'⟩
    have z0 : wc.cell? ⟨A, 0, none⟩ = some (.int .i64 kd) := (cells_at HI.bx 0).1
    have tp := pick_any wc kd 8 (by omega) HK.out.2
    rw [HK.out.1] at tp
    clear HC HI HI0 hdc hbl hdv' hA
    generalize hCS : (#[.int .i64 kd, .int .i64 c, .int .u64 tk, dv', .int .i64 a0, .int .i64 a1, .int .i64 a2, .int .i64 a3, .int .i64 a4, .slice va n1 vc, .slice vb n2 vd] : Array Value) = CS at HS
    have HCS : Hid ((#[.int .i64 kd, .int .i64 c, .int .u64 tk, dv', .int .i64 a0, .int .i64 a1, .int .i64 a2, .int .i64 a3, .int .i64 a4, .slice va n1 vc, .slice vb n2 vd] : Array Value) = CS) := hCS
    clear hCS
    have AC : Hid (∀ (wx : World), wx.heap[A]? = some (.cells CS 66 (0, 0)) → wx.cell? ⟨A, 0, none⟩ = some (.int .i64 kd) ∧ wx.cell? ⟨A, 1, none⟩ = some (.int .i64 c) ∧ wx.cell? ⟨A, 2, none⟩ = some (.int .u64 tk) ∧ wx.cell? ⟨A, 3, none⟩ = some dv') := fun wx hb => by
      rw [← HCS.out] at hb
      exact ⟨(cells_at hb 0).1, (cells_at hb 1).1, (cells_at hb 2).1, (cells_at hb 3).1⟩
    go_wp2_with fail
    go_at_call 11
    refine tp.mono ?_
    rintro e wp ⟨rfl, rfl⟩
    clear tp
    obtain h012 := H012.out
    rcases h012 with rfl | rfl | rfl
    all_goals
      go_upto_region 7 with fail
      obtain ⟨I0, hdv'⟩ := HS.out
      have kd0 := Kp.drew wp
      have I1 := I0.kp kd0
      have ac := AC.out _ I1.bx
      obtain ⟨i0, hi0⟩ : ∃ i, i = b.G.length := ⟨_, rfl⟩
      refine reg17_7 wp K A c dv' ⟨ac.2.2.2, ac.2.1⟩ (fun v wx => ∃ y0 cp σ' b', v = .slice (some ⟨y0, 0, none⟩) bs'.length cp ∧ SI W w σ K U A CS wx σ' b' P Q ∧ Sz b' (g + 1) h o r l d ∧ b'.V 8 = .bool st ∧ (b'.X 2)[i0]? = some (.slice (some ⟨y0, 0, none⟩) (bs'.length + 8) cp) ∧ b'.G[i0]? = some (bs' ++ mk8)) ?_ _ (fun _ _ _ q _ h => by cases q <;> exact h) ?_
      · refine (I1.lends HH.out.sz dv' bs' (hdv'.kp I1.pl.kW) (by omega) (by have := HH.out.hg; omega)).mono ?_
        rintro e x1 ⟨y0, cp, rfl, σ', b', I2, s2, v2, eG, eX, _, _⟩
        have hl2 : (b.X 2).length = b.G.length := by have := I0.pl.bk.g.len; simpa using this
        refine ⟨_, rfl, ⟨(AC.out _ I2.bx).2.2.2, (AC.out _ I2.bx).2.1⟩, y0, cp, σ', b', rfl, I2, s2, v2.trans HH.out.v8, ?_, ?_⟩
        · rw [eX, hi0, ← hl2]; simp
        · rw [eG, hi0]; simp
      intro v w2 HX
      obtain ⟨y0, cp, σ2, b2, rfl, I2, s2, v2, eX, eG⟩ := HX
      have HI2 : Hid (SI W w σ K U A CS w2 σ2 b2 P Q ∧ Sz b2 (g + 1) h o r l d ∧ b2.V 8 = .bool st ∧ (b2.X 2)[i0]? = some (.slice (some ⟨y0, 0, none⟩) (bs'.length + 8) cp) ∧ b2.G[i0]? = some (bs' ++ mk8)) := ⟨I2, s2, v2, eX, eG⟩
      have HBS : Hid (bs'.length ≤ 300 ∧ Bs W dv' bs') := ⟨hbl', hdv'⟩
      obtain ⟨n', hn'⟩ : ∃ n', n' = bs'.length := ⟨_, rfl⟩
      have HN' : Hid (n' = bs'.length) := hn'
      rw [← hn'] at HI2 hbl' ⊢
      clear I0 kd0 I1 ac hi0 I2 s2 v2 eX eG hdv' z0 hn'
      go_upto_region 8 with fail
      obtain ⟨I2, s2, v2, eX, eG⟩ := HI2.out
      have kd0 := Kp.drew w2
      have I3 := I2.kp kd0
      have ac := AC.out _ I3.bx
      have hob := I3.lentAt eX eG
      have hbs : Bs w2.drew (.slice (some ⟨y0, 0, none⟩) n' cp) bs' := by
        have := lent_bs (bs := bs') (by rw [← HN'.out]; exact hob) (by have := HBS.out.1; omega)
        rw [← HN'.out] at this
        exact this
      refine reg17_8 w2 K A P.B c tk (.slice (some ⟨y0, 0, none⟩) n' cp) ⟨I3.kc.1, ac.2.1, ac.2.2.1⟩ (fun e1 wx => e1 = P.p.sE c n' ∧ ∃ σ' P' v', SI W w σ K U A CS wx σ' b2 P' Q ∧ P'.p = P.p.send c ⟨v', bs', tk⟩ ∧ P'.B = P.B) ?_ _ (fun _ _ _ q _ h => by cases q <;> exact h) ?_
      · refine (I3.send c tk _ bs' hbs).mono ?_
        rintro e x1 ⟨rfl, σ', P', v', I4, hp, hB, _, _⟩
        exact ⟨_, rfl, ⟨by have := I4.kc.1; rw [hB] at this; exact this, (AC.out _ I4.bx).2.1, (AC.out _ I4.bx).2.2.1⟩, by rw [HN'.out], σ', P', v', I4, hp, hB⟩
      intro e1 w3 HX
      obtain ⟨he1, σ3, P3, v3, I4, hp3, hB3⟩ := HX
      have HI4 : Hid (SI W w σ K U A CS w3 σ3 b2 P3 Q ∧ P3.p = P.p.send c ⟨v3, bs', tk⟩ ∧ e1 = P.p.sE c n' ∧ P3.B = P.B) := ⟨I4, hp3, he1, hB3⟩
      clear I2 s2 v2 eX eG kd0 I3 ac hob hbs I4 hp3 hB3 he1
      go_upto_region 9 with fail
      obtain ⟨I4, hp3, he1, hB3⟩ := HI4.out
      have kd0 := Kp.drew w3
      have I5 := I4.kp kd0
      have ka : Kp w3.drew (w3.drew.alloc (.cells #[] 5)) := Kp.al _ _
      have I6 := I5.kp ka
      obtain ⟨v7, w7, r7, o7, c7, L7⟩ := run_appB _ _ [] (ob_none w3.drew) dv' bs' (HBS.out.2.kp I6.pl.kW) (by have := HBS.out.1; simp; omega) 37
      have hzz : w3.drew.heap.size = w3.heap.size := rfl
      have k7 : Kp w3.drew w7 := Chg.trans ka c7 (fun i hi e => by simp [Value.ownBlock] at e; omega)
      rw [List.nil_append] at o7
      obtain ⟨a7, c7', e7⟩ := o7.shape
      rw [← HN'.out] at e7
      have I7 := I5.kp k7
      obtain ⟨da', dc', ed'⟩ := HBS.out.2.vshape
      rw [← HN'.out] at ed'
      have ac5 := AC.out _ I5.bx
      have ac6 := AC.out _ I6.bx
      have ac7 := AC.out _ I7.bx
      rw [ed'] at ac5 ac6 ac7 r7
      refine reg17_9 w3 w7 K A Q.B n' dc' n' c7' da' a7 c tk ⟨I5.kc.2, ac5.2.1, ac5.2.2.1, ac5.2.2.2⟩ ⟨I6.kc.2, ac6.2.1, ac6.2.2.1, ac6.2.2.2⟩ (by rw [← e7]; exact r7) ⟨I7.kc.2, ac7.2.1, ac7.2.2.1, ac7.2.2.2⟩ (fun e2 wx => e2 = e1 ∧ ∃ σ' Q' v', SI W w σ K U A CS wx σ' b2 P3 Q' ∧ Q'.p = Q.p.send c ⟨v', bs', tk⟩ ∧ Q'.B = Q.B) ?_ _ (fun _ _ _ q _ h => by cases q <;> exact h) ?_
      · rw [← e7]
        refine (I7.rsend c tk v7 bs' (o7.bs (by have := HBS.out.1; omega))).mono ?_
        rintro e x1 ⟨rfl, σ', Q', v', I8, hq, hB, _, _⟩
        have ac8 := AC.out _ I8.bx
        rw [ed'] at ac8
        exact ⟨_, rfl, ⟨by have := I8.kc.2; rw [hB] at this; exact this, ac8.2.1, ac8.2.2.1, ac8.2.2.2⟩, by rw [he1, HH.out.qe.sE, HN'.out], σ', Q', v', I8, hq, hB⟩
      intro e2 w8 HX
      obtain ⟨rfl, σ8, Q8, v8, I8, hq8, hB8⟩ := HX
      have HI8 : Hid (SI W w σ K U A CS w8 σ8 b2 P3 Q8 ∧ P3.p = P.p.send c ⟨v3, bs', tk⟩ ∧ Q8.p = Q.p.send c ⟨v8, bs', tk⟩) := ⟨I8, hp3, hq8⟩
      have t18 := I8.looks HI2.out.2.1 (by have := HH.out.hg; omega) (by have := HH.out.hh; omega) (by have := HH.out.ho; omega) (by have := HH.out.hr; omega) (by have := HH.out.hl; omega) (by have := HH.out.hd; omega)
      clear hzz I4 hp3 he1 hB3 kd0 I5 ka I6 r7 o7 c7 L7 k7 e7 I7 ed' ac5 ac6 ac7 I8 hq8 hB8
      go_wp2_with fail
      go_at_call 18
      refine t18.mono ?_
      rintro e w9 ⟨rfl, k9⟩
      have I9 := HI8.out.1.kp k9
      have t29 := I9.turns HI2.out.2.1 (by have := HH.out.hg; omega) (by have := HH.out.hl; omega)
      clear t18 k9
      go_wp2_with fail
      go_at_call 29
      refine t29.mono ?_
      rintro e w10 ⟨rfl, b10, I10, s10, eV, eG10, eL10, eX2, eX6, c10⟩
      have HI10 : Hid (SI W w σ K U A CS w10 σ8 b10 P3 Q8 ∧ Sz b10 (g + 1) h o r l d ∧ b10.V 8 = .bool st ∧ (b10.X 2)[i0]? = some (.slice (some ⟨y0, 0, none⟩) (n' + 8) cp) ∧ b10.G[i0]? = some (List.replicate (n' + 8) 238)) := by
        obtain ⟨_, _, v2, eX, eG⟩ := HI2.out
        refine ⟨I10, s10, by rw [eV]; exact v2, by rw [eX2]; exact eX, ?_⟩
        rw [eG10, List.getElem?_map, eG]
        simp [fB, mk8, HN'.out]
      have z10 : w10.cell? ⟨A, 0, none⟩ = some (.int .i64 kd) := (AC.out _ I10.bx).1
      have hq8b : -9223372036854775808 ≤ kd.tdiv 8 ∧ kd.tdiv 8 ≤ 9223372036854775807 := by
        have := HK.out.2
        rcases Int.le_total 0 kd with h1 | h1
        · have h2 := Int.tdiv_le_self 8 h1
          have h3 := Int.tdiv_nonneg h1 (by omega : (0 : Int) ≤ 8)
          omega
        · have h2 : kd.tdiv 8 = -((-kd).tdiv 8) := by rw [Int.neg_tdiv]; simp
          have h3 := Int.tdiv_le_self (a := -kd) 8 (by omega)
          have h4 := Int.tdiv_nonneg (a := -kd) (b := 8) (by omega) (by omega)
          omega
      have hw8 : IntKind.i64.wrap (kd.tdiv 8) = kd.tdiv 8 := w64 hq8b.1 hq8b.2
      have tp2 := pick_any w10 (kd.tdiv 8) 2 (by omega) hq8b
      clear t29 I9 I10 s10 eV eG10 eL10 eX2 eX6 c10 hq8b
      go_wp2_with fail
      go_at_call 11
      refine tp2.mono ?_
      rintro e w11 ⟨rfl, rfl⟩
      clear tp2 hw8 z10
      have HE1 : Hid (e2 = P.p.sE c n') := HI4.out.2.2.1
      by_cases hagain : pk (kd.tdiv 8) 2 = 1
      · obtain ⟨I10, s10, v10, eX10, eG10⟩ := HI10.out
        have hob := I10.lentAt eX10 eG10
        have hb2 : Bs w11 (.slice (some ⟨y0, 0, none⟩) n' cp) (List.replicate n' 238) := by
          have h1 : OB w11 (.slice (some ⟨y0, 0, none⟩) (List.replicate (n' + 8) (238 : Int)).length cp) (List.replicate (n' + 8) 238) := by simpa using hob
          exact (OB.pre (n := n') (xs := List.replicate n' 238) h1 (by simp) (by simp)).bs (by simp; omega)
        obtain ⟨v14, w14, r14, o14, k14, n14⟩ := run_app0 w11 (.slice (some ⟨y0, 0, none⟩) n' cp) _ hb2 37
        obtain ⟨a14, c14, e14⟩ := o14.shape
        rw [List.length_replicate] at e14
        have I14 := I10.kp k14
        have HI14 : Hid (SI W w σ K U A CS w14 σ8 b10 P3 Q8 ∧ OB w14 (.slice a14 n' c14) (List.replicate n' 238) ∧ Bs w14 (.slice (some ⟨y0, 0, none⟩) n' cp) (List.replicate n' 238)) := ⟨I14, by rw [← e14]; exact o14, hb2.kp k14⟩
        rw [e14] at r14
        clear I10 s10 v10 eX10 eG10 hob hb2 o14 k14 n14 e14 I14
        go_upto_region 15 with (at_builtin; refine wpList_append_run _ rfl (.tmp 91) (.tmp 92) 37 37 rfl _ _ (.slice a14 n' c14) w14 rfl rfl r14 ?_)
        clear r14
        obtain ⟨I14, o14, hb14⟩ := HI14.out
        have kd0 := Kp.drew w14
        have I15 := I14.kp kd0
        have ac := AC.out _ I15.bx
        refine reg17_15 w14 K A P3.B c tk (.slice (some ⟨y0, 0, none⟩) n' cp) ⟨I15.kc.1, ac.2.1, ac.2.2.1⟩ (fun e1 wx => e1 = P3.p.sE c n' ∧ ∃ σ' P' v', SI W w σ K U A CS wx σ' b10 P' Q8 ∧ P'.p = P3.p.send c ⟨v', List.replicate n' 238, tk⟩ ∧ OB wx (.slice a14 n' c14) (List.replicate n' 238)) ?_ _ (fun _ _ _ q _ h => by cases q <;> exact h) ?_
        · refine (I15.send c tk _ _ (hb14.kp kd0)).mono ?_
          rintro e x1 ⟨rfl, σ', P', v', I4, hp, hB, hc, _⟩
          have o15 := Chg.owns kd0 o14 (fun _ _ h => h)
          refine ⟨_, rfl, ⟨by have := I4.kc.1; rw [hB] at this; exact this, (AC.out _ I4.bx).2.1, (AC.out _ I4.bx).2.2.1⟩, by rw [List.length_replicate], σ', P', v', I4, hp, hc.owns o15 (fun k hk e => ?_)⟩
          obtain ⟨csx, T, a, b', _⟩ := IsQ.tp I15.pl.q e
          exact OB.no o15 a b' hk
        intro e3 w16 HX
        obtain ⟨he3, σ16, P16, v16, I16, hp16, o16⟩ := HX
        have HI16 : Hid (SI W w σ K U A CS w16 σ16 b10 P16 Q8 ∧ P16.p = P3.p.send c ⟨v16, List.replicate n' 238, tk⟩ ∧ OB w16 (.slice a14 n' c14) (List.replicate n' 238) ∧ e3 = P3.p.sE c n') := ⟨I16, hp16, o16, he3⟩
        clear I14 o14 hb14 kd0 I15 ac he3 I16 hp16 o16
        go_upto_region 16 with fail
        obtain ⟨I16, hp16, o16, he3⟩ := HI16.out
        have kd0 := Kp.drew w16
        have I17 := I16.kp kd0
        have ac := AC.out _ I17.bx
        have qe3 : QE P3.p Q8.p := by rw [HI8.out.2.1, HI8.out.2.2]; exact HH.out.qe.send c rfl
        refine reg17_16 w16 K A Q8.B c tk (.slice a14 n' c14) ⟨I17.kc.2, ac.2.1, ac.2.2.1⟩ (fun e4 wx => e4 = e3 ∧ StE W w σ K U P st g h o r l d wx) ?_ _ (fun _ _ _ q _ h => by cases q <;> exact h) ?_
        · refine (I17.rsend c tk _ _ (Bs.kp (o16.bs (by simp; omega)) kd0)).mono ?_
          rintro e x1 ⟨rfl, σ', Q', v', I4, hq, hB, _, _⟩
          refine ⟨_, rfl, ⟨by have := I4.kc.2; rw [hB] at this; exact this, (AC.out _ I4.bx).2.1, (AC.out _ I4.bx).2.2.1⟩, by rw [he3, qe3.sE, List.length_replicate], σ', U, b10, P16, Q', I4.pl, by rw [hp16, hq]; exact qe3.send c rfl, ?_, fun _ _ => rfl, I4.sd, HI10.out.2.2.1, HI10.out.2.1.mono (by omega) (by omega) (by omega) (by omega) (by omega) (by omega)⟩
          rw [hp16, HI8.out.2.1]
          unfold QS.send QS.push
          split <;> split <;> rfl
        intro e4 w18 HX
        obtain ⟨rfl, HX⟩ := HX
        have HF : Hid (StE W w σ K U P st g h o r l d w18) := HX
        clear HX I16 hp16 o16 he3 kd0 I17 ac qe3
        go_wp2_with fail
        go_ret
        exact ⟨rfl, HF.out⟩
      · have HF : Hid (StE W w σ K U P st g h o r l d w11) := by
          obtain ⟨I10, s10, v10, _, _⟩ := HI10.out
          refine ⟨σ8, U, b10, P3,Q8, I10.pl, by rw [HI8.out.2.1, HI8.out.2.2]; exact HH.out.qe.send c rfl, ?_, fun _ _ => rfl, I10.sd, v10, s10.mono (by omega) (by omega) (by omega) (by omega) (by omega) (by omega)⟩
          rw [HI8.out.2.1]
          unfold QS.send QS.push
          split <;> rfl
        go_wp2_with fail
        go_ret
        exact ⟨rfl, HF.out⟩
end Go.Proofs.Ytnblhaeojlpmmaa
