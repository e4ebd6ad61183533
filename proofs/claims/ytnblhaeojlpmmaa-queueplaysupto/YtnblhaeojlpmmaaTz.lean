import Derived.Test.YtnblhaeojlpmmaaTy
namespace Go.Proofs.Ytnblhaeojlpmmaa
open Go.ChangeShapes Go.WideShapes Go.ChangeAt Go.RowKit
set_option linter.unusedVariables false
set_option maxHeartbeats 8000000 in
set_option maxRecDepth 10000 in
theorem step_recv (W w : World) (σ : Nat → Nat × Nat) (K : Nat) (U : Nat → Value) (b : BS) (P Q : PT) (kd c tk : Int) (dv : Value) (bs : List Int) (x : SV) (st : Bool) (g h o r l d : Nat) (HB : StB W w σ K U b P Q kd c tk dv bs x st g h o r l d) (hk : pk kd 8 = 3) :
    Calls Try.prog 17 #[.pointer (some ⟨K, 0, none⟩), .agg (scs kd c tk dv x)] w fun e w' => e = .returned (.bool true) ∧ StE W w σ K U P st g h o r l d w' := by
  obtain ⟨va, vc, eva⟩ := HB.xr.hq.vshape
  obtain ⟨vb, vd, evb⟩ := HB.xr.hs.vshape
  obtain ⟨da, dc, eda, hdc⟩ := HB.dc
  have hbl := HB.bl
  have HH : Hid (StB W w σ K U b P Q kd c tk dv bs x st g h o r l d) := HB
  have EV : Hid (x.vq = .slice va x.lq.length vc ∧ x.vs = .slice vb x.ls.length vd ∧ dv = .slice da bs.length dc) := ⟨eva, evb, eda⟩
  have HI0 : Hid (∀ dv', SI W w σ K U w.heap.size (scs kd c tk dv' x) (w.alloc (.cells (scs kd c tk dv' x) 66)) σ b P Q) := fun dv' => by
    have k0 := Kp.al w (.cells (scs kd c tk dv' x) 66)
    have hb := heap_alloc_new w (.cells (scs kd c tk dv' x) 66)
    exact ⟨HB.pl.kp k0, Sd.kp k0, hb, HB.pl.bk.m.fz _ (Nat.le_refl _), Nat.le_refl _, HB.pl.kW.size⟩
  have HK : Hid (pk kd 8 = 3 ∧ -9223372036854775808 ≤ kd ∧ kd ≤ 9223372036854775807) := ⟨hk, HB.kr⟩
  unfold scs at HI0 ⊢
  rw [eva, evb] at HI0 ⊢
  rw [eda]
  obtain ⟨n, hn⟩ : ∃ n, n = bs.length := ⟨_, rfl⟩
  have HN : Hid (n = bs.length) := hn
  rw [← hn] at hdc hbl ⊢
  obtain ⟨n1, hn1⟩ : ∃ n, n = x.lq.length := ⟨_, rfl⟩
  obtain ⟨n2, hn2⟩ : ∃ n, n = x.ls.length := ⟨_, rfl⟩
  have NX : Hid (n1 = x.lq.length ∧ n2 = x.ls.length) := ⟨hn1, hn2⟩
  rw [← hn1, ← hn2] at HI0 ⊢
  obtain ⟨a0, h0⟩ : ∃ a, a = x.ac := ⟨_, rfl⟩
  obtain ⟨a1, h1⟩ : ∃ a, a = x.rc := ⟨_, rfl⟩
  obtain ⟨a2, h2⟩ : ∃ a, a = x.q := ⟨_, rfl⟩
  obtain ⟨a3, h3⟩ : ∃ a, a = x.t := ⟨_, rfl⟩
  obtain ⟨a4, h4⟩ : ∃ a, a = x.lo := ⟨_, rfl⟩
  have AX : Hid (a0 = x.ac ∧ a1 = x.rc ∧ a2 = x.q ∧ a3 = x.t ∧ a4 = x.lo) := ⟨h0, h1, h2, h3, h4⟩
  rw [← h0, ← h1, ← h2, ← h3, ← h4] at HI0 ⊢
  clear HB eva evb eda hk hn hn1 hn2 h0 h1 h2 h3 h4
  go_enter Try.func17, Try.ntmps17
  go_upto_if 37 with fail
  go_cut [4] from 38 to 41 (fun s4 wx => s4 = .bool false ∧ Hid (∃ (dv' : Value) (bs' : List Int), Bs W dv' bs' ∧ bs'.length ≤ 300 ∧ SI W w σ K U w.heap.size #[.int .i64 kd, .int .i64 c, .int .u64 tk, dv', .int .i64 a0, .int .i64 a1, .int .i64 a2, .int .i64 a3, .int .i64 a4, .slice va n1 vc, .slice vb n2 vd] wx σ b P Q))
  case first =>
    as_aux_lemma =>
      by_cases hlen : 300 < n
      · have hz : (300 : Int) < (n : Nat) := by omega
        have hz2 : (300 : Int) ≤ (dc : Nat) := by omega
        go_wp2_with fail
        go_meet
        refine ⟨rfl, ⟨_, _, Bs.take300 (n := n) (c := dc) (a := da) (bs := bs) (by have := HH.out.dvb; rw [EV.out.2.2, ← HN.out] at this; exact this) (by rw [← HN.out]; exact hlen), by simp; omega, HI0.out _⟩⟩
      · have hz : ¬ (300 : Int) < (n : Nat) := by omega
        go_wp2_with fail
        go_meet
        refine ⟨rfl, ⟨_, _, by have := HH.out.dvb; rw [EV.out.2.2, ← HN.out] at this; exact this, by rw [← HN.out]; omega, HI0.out _⟩⟩
  case rest =>
    obtain ⟨rfl, HC⟩ := hcut
    obtain ⟨dv', bs', hdv', hbl', HI⟩ := HC.out
    obtain ⟨A, hA⟩ : ∃ A, w.heap.size = A := ⟨_, rfl⟩
    rw [hA] at HI ⊢
    have HS : Hid (SI W w σ K U A #[.int .i64 kd, .int .i64 c, .int .u64 tk, dv', .int .i64 a0, .int .i64 a1, .int .i64 a2, .int .i64 a3, .int .i64 a4, .slice va n1 vc, .slice vb n2 vd] wc σ b P Q ∧ Bs W dv' bs') := ⟨HI, hdv'⟩
    have z0 : wc.cell? ⟨A, 0, none⟩ = some (.int .i64 kd) := (cells_at HI.bx 0).1
    have tp := pick_any wc kd 8 (by omega) HK.out.2
    rw [HK.out.1] at tp
    clear HC HI HI0 hdc hbl hdv' hA
    generalize hCS : (#[.int .i64 kd, .int .i64 c, .int .u64 tk, dv', .int .i64 a0, .int .i64 a1, .int .i64 a2, .int .i64 a3, .int .i64 a4, .slice va n1 vc, .slice vb n2 vd] : Array Value) = CS at HS
    have HCS : Hid ((#[.int .i64 kd, .int .i64 c, .int .u64 tk, dv', .int .i64 a0, .int .i64 a1, .int .i64 a2, .int .i64 a3, .int .i64 a4, .slice va n1 vc, .slice vb n2 vd] : Array Value) = CS) := hCS
    clear hCS
    have AC : Hid (∀ (wx : World), wx.heap[A]? = some (.cells CS 66 (0, 0)) → wx.cell? ⟨A, 0, none⟩ = some (.int .i64 kd) ∧ wx.cell? ⟨A, 1, none⟩ = some (.int .i64 c) ∧ wx.cell? ⟨A, 2, none⟩ = some (.int .u64 tk) ∧ wx.cell? ⟨A, 3, none⟩ = some dv') := fun wx hb => by
      rw [← HCS.out] at hb
      exact ⟨(cells_at hb 0).1, (cells_at hb 1).1, (cells_at hb 2).1, (cells_at hb 3).1⟩
    go_wp2_with fail
    go_at_call 11
    refine tp.mono ?_
    rintro e wp ⟨rfl, rfl⟩
    clear tp
    go_upto_region 20 with fail
    obtain ⟨I0, _⟩ := HS.out
    have kd0 := Kp.drew wp
    have I1 := I0.kp kd0
    have ac := AC.out _ I1.bx
    refine reg17_20 wp K A P.B c ⟨I1.kc.1, ac.2.1⟩ (fun y t bb e1 wx => y = (P.p.gM c).v ∧ t = (P.p.gM c).tk ∧ bb = P.p.gH c ∧ e1 = P.p.gE c ∧ ∃ σ' P', SI W w σ K U A CS wx σ' b P' Q ∧ P'.p = P.p.recv c ∧ P'.B = P.B ∧ OB wx (P.p.gM c).v (P.p.gM c).bs ∧ (∀ k, (P.p.gM c).v.ownBlock = some k → σ' k = (0, 4))) ?_ _ (fun _ _ _ q _ h => by cases q <;> exact h) ?_
    · refine (I1.recv c).mono ?_
      rintro e x1 ⟨rfl, σ', P', I2, hp, hB, ho, hl⟩
      exact ⟨_, _, _, _, rfl, ⟨by have := I2.kc.1; rw [hB] at this; exact this, (AC.out _ I2.bx).2.1⟩, rfl, rfl, rfl, rfl, σ', P', I2, hp, hB, ho, hl⟩
    intro y t bb e1 w2 HX
    obtain ⟨ey, et, eb, ee, σ', P', I2, hp, hB, ho, hl⟩ := HX
    have HE : Hid (y = (P.p.gM c).v ∧ t = (P.p.gM c).tk ∧ bb = P.p.gH c ∧ e1 = P.p.gE c) := ⟨ey, et, eb, ee⟩
    have HI2 : Hid (SI W w σ K U A CS w2 σ' b P' Q ∧ P'.p = P.p.recv c ∧ OB w2 (P.p.gM c).v (P.p.gM c).bs ∧ (∀ k, (P.p.gM c).v.ownBlock = some k → σ' k = (0, 4))) := ⟨I2, hp, ho, hl⟩
    clear I0 kd0 I1 ac I2 hp hB ho hl z0 ey et eb ee
    go_upto_region 21 with fail
    obtain ⟨I2, hp, ho, hl⟩ := HI2.out
    have kd0 := Kp.drew w2
    have I3 := I2.kp kd0
    refine reg17_21 w2 K A Q.B c ⟨I3.kc.2, (AC.out _ I3.bx).2.1⟩ (fun z t' bb' e1' wx => t' = t ∧ bb' = bb ∧ e1' = e1 ∧ ∃ σ4 Q', SI W w σ K U A CS wx σ4 b P' Q' ∧ Q'.p = Q.p.recv c ∧ OB wx z (P.p.gM c).bs ∧ OB wx (P.p.gM c).v (P.p.gM c).bs ∧ (∀ k, (P.p.gM c).v.ownBlock = some k → σ4 k = (0, 4))) ?_ _ (fun _ _ _ q _ h => by cases q <;> exact h) ?_
    · refine (I3.rrecv c).mono ?_
      rintro e x1 ⟨rfl, σ4, Q', I4, hq, hQ, ho4, hc4, hx4⟩
      have qe := HH.out.qe
      have hm := qe.gM c
      have he := HE.out
      have ho3 : OB w2.drew (P.p.gM c).v (P.p.gM c).bs := Chg.owns kd0 ho (fun _ _ h => h)
      refine ⟨_, _, _, _, rfl, ⟨by have := I4.kc.2; rw [hQ] at this; exact this, (AC.out _ I4.bx).2.1⟩, ?_, ?_, ?_, σ4, Q', I4, hq, ?_, hc4.owns ho3 (fun k hk e => ho3.no I3.pl.f.box (by decide) (by rw [hk, e])), fun k hk => ?_⟩
      · rw [he.2.1]; exact (Prod.mk.inj hm).2
      · rw [he.2.2.1]; exact qe.gH c
      · rw [he.2.2.2]; exact qe.gE c
      · rw [← (Prod.mk.inj hm).1]; exact ho4
      · rw [hx4 k (ho3.lt hk)]; exact hl k hk
    intro z t' bb' e1' w4 HX
    obtain ⟨rfl, rfl, rfl, σ4, Q', I4, hq, hoz, ho4, hl4⟩ := HX
    have cv1 := conv_own _ _ _ ho4
    have cv2 := conv_own _ _ _ hoz
    obtain ⟨za, zc, ez⟩ := hoz.shape
    have hb4 : (P.p.gM c).bs.length ≤ 1000 := by
      have : ∀ m ∈ P.p.qd ++ P.p.st, m.bs.length ≤ 1000 := fun m hm => by
        have h1 := (HH.out.pl.q.ok.m m hm).1
        have h2 := may_ok HH.out.pl.q.ok.d
        omega
      unfold QS.gM
      split
      · cases hq2 : P.p.qd with
        | nil => simp [Mg.no]
        | cons m l => exact this m (by rw [hq2]; simp)
      · simp [Mg.no]
    obtain ⟨ya, yc, ey⟩ := ho4.shape
    have t31 := I4.owns HH.out.sz st HH.out.v8 (P.p.gM c).v (P.p.gM c).bs ho4 hb4 hl4 (by have := HH.out.ho; omega) (by have := HH.out.hh; omega)
    rw [← HE.out.1] at t31 ey cv1
    obtain ⟨ns, hns⟩ : ∃ n, n = (P.p.gM c).bs.length := ⟨_, rfl⟩
    obtain ⟨sb, hsb⟩ : ∃ s, s = strOf (P.p.gM c).bs := ⟨_, rfl⟩
    rw [← hns] at ez ey
    rw [← hsb] at cv1 cv2
    subst ez ey
    have HQ : Hid (P'.p = P.p.recv c ∧ Q'.p = Q.p.recv c) := ⟨hp, hq⟩
    clear hb4 I2 hp ho hl kd0 I3 hq hoz ho4 hl4 hns hsb I4 HI2
    go_upto_region 23 with fail
    clear cv1 cv2
    go_wp2_with fail
    go_at_call 31
    refine t31.mono ?_
    rintro e w5 ⟨rfl, σ5, b5, I5, s5, v5⟩
    have HF : Hid (StE W w σ K U P st g h o r l d w5) := ⟨σ5, U, b5, P', Q', I5.pl, by rw [HQ.out.1, HQ.out.2]; exact HH.out.qe.recv c, by rw [HQ.out.1]; unfold QS.recv; split <;> rfl, fun _ _ => rfl, I5.sd, v5, s5.mono (by omega) (by omega) (by omega) (by omega) (by omega) (by omega)⟩
    clear t31 I5 s5 v5
    go_wp2_with fail
    go_ret
    exact ⟨rfl, HF.out⟩
end Go.Proofs.Ytnblhaeojlpmmaa
