import Derived.Test.YtnblhaeojlpmmaaVe
namespace Go.Proofs.Ytnblhaeojlpmmaa
open Go.ChangeShapes Go.WideShapes Go.ChangeAt Go.RowKit
set_option linter.unusedVariables false
set_option maxHeartbeats 8000000 in
set_option maxRecDepth 10000 in
theorem step_load (W w : World) (σ : Nat → Nat × Nat) (K : Nat) (U : Nat → Value) (b : BS) (P Q : PT) (kd c tk : Int) (dv : Value) (bs : List Int) (x : SV) (st : Bool) (g h o r l d : Nat) (HB : StB W w σ K U b P Q kd c tk dv bs x st g h o r l d) (hk : pk kd 8 = 7) :
    Calls Try.prog 17 #[.pointer (some ⟨K, 0, none⟩), .agg (scs kd c tk dv x)] w fun e w' => e = .returned (.bool true) ∧ StE W w σ K U P st g h o r l d w' := by
  obtain ⟨va, vc, eva⟩ := HB.xr.hq.vshape
  obtain ⟨vb, vd, evb⟩ := HB.xr.hs.vshape
  obtain ⟨da, dc, eda, hdc⟩ := HB.dc
  have hbl := HB.bl
  have HH : Hid (StB W w σ K U b P Q kd c tk dv bs x st g h o r l d) := HB
  have EV : Hid (x.vq = .slice va x.lq.length vc ∧ x.vs = .slice vb x.ls.length vd ∧ dv = .slice da bs.length dc) := ⟨eva, evb, eda⟩
  have HI0 : Hid (∀ dv', SI W w σ K U w.heap.size (scs kd c tk dv' x) (w.alloc (.cells (scs kd c tk dv' x) 66)) σ b P Q) := fun dv' => by
    have k0 := Kp.al w (.cells (scs kd c tk dv' x) 66)
    have hb := heap_alloc_new w (.cells (scs kd c tk dv' x) 66)
    exact ⟨HB.pl.kp k0, Sd.kp k0, hb, HB.pl.bk.m.fz _ (Nat.le_refl _), Nat.le_refl _, HB.pl.kW.size⟩
  have HK : Hid (pk kd 8 = 7 ∧ -9223372036854775808 ≤ kd ∧ kd ≤ 9223372036854775807) := ⟨hk, HB.kr⟩
  unfold scs at HI0 ⊢
  rw [eva, evb] at HI0 ⊢
  rw [eda]
  obtain ⟨n, hn⟩ : ∃ n, n = bs.length := ⟨_, rfl⟩
  have HN : Hid (n = bs.length) := hn
  rw [← hn] at hdc hbl ⊢
  obtain ⟨n1, hn1⟩ : ∃ n, n = x.lq.length := ⟨_, rfl⟩
  obtain ⟨n2, hn2⟩ : ∃ n, n = x.ls.length := ⟨_, rfl⟩
  have NX : Hid (n1 = x.lq.length ∧ n2 = x.ls.length) := ⟨hn1, hn2⟩
  rw [← hn1, ← hn2] at HI0 ⊢
  obtain ⟨a0, h0⟩ : ∃ a, a = x.ac := ⟨_, rfl⟩
  obtain ⟨a1, h1⟩ : ∃ a, a = x.rc := ⟨_, rfl⟩
  obtain ⟨a2, h2⟩ : ∃ a, a = x.q := ⟨_, rfl⟩
  obtain ⟨a3, h3⟩ : ∃ a, a = x.t := ⟨_, rfl⟩
  obtain ⟨a4, h4⟩ : ∃ a, a = x.lo := ⟨_, rfl⟩
  have AX : Hid (a0 = x.ac ∧ a1 = x.rc ∧ a2 = x.q ∧ a3 = x.t ∧ a4 = x.lo) := ⟨h0, h1, h2, h3, h4⟩
  rw [← h0, ← h1, ← h2, ← h3, ← h4] at HI0 ⊢
  clear HB eva evb eda hk hn hn1 hn2 h0 h1 h2 h3 h4
  go_enter Try.func17, Try.ntmps17
  go_upto_if 37 with fail
  go_cut [4] from 38 to 41 (fun s4 wx => s4 = .bool false ∧ Hid (∃ (dv' : Value) (bs' : List Int), Bs W dv' bs' ∧ bs'.length ≤ 300 ∧ SI W w σ K U w.heap.size #[.int .i64 kd, .int .i64 c, .int .u64 tk, dv', .int .i64 a0, .int .i64 a1, .int .i64 a2, .int .i64 a3, .int .i64 a4, .slice va n1 vc, .slice vb n2 vd] wx σ b P Q))
  case first =>
    as_aux_lemma =>
      by_cases hlen : 300 < n
      · have hz : (300 : Int) < (n : Nat) := by omega
        have hz2 : (300 : Int) ≤ (dc : Nat) := by omega
        go_wp2_with fail
        go_meet
        refine ⟨rfl, ⟨_, _, Bs.take300 (n := n) (c := dc) (a := da) (bs := bs) (by have := HH.out.dvb; rw [EV.out.2.2, ← HN.out] at this; exact this) (by rw [← HN.out]; exact hlen), by simp; omega, HI0.out _⟩⟩
      · have hz : ¬ (300 : Int) < (n : Nat) := by omega
        go_wp2_with fail
        go_meet
        refine ⟨rfl, ⟨_, _, by have := HH.out.dvb; rw [EV.out.2.2, ← HN.out] at this; exact this, by rw [← HN.out]; omega, HI0.out _⟩⟩
  case rest =>
    obtain ⟨rfl, HC⟩ := hcut
    obtain ⟨dv', bs', hdv', hbl', HI⟩ := HC.out
    obtain ⟨A, hA⟩ : ∃ A, w.heap.size = A := ⟨_, rfl⟩
    rw [hA] at HI ⊢
    have HS : Hid (SI W w σ K U A #[.int .i64 kd, .int .i64 c, .int .u64 tk, dv', .int .i64 a0, .int .i64 a1, .int .i64 a2, .int .i64 a3, .int .i64 a4, .slice va n1 vc, .slice vb n2 vd] wc σ b P Q ∧ Bs W dv' bs') := ⟨HI, hdv'⟩
    have z0 : wc.cell? ⟨A, 0, none⟩ = some (.int .i64 kd) := (cells_at HI.bx 0).1
    have tp := pick_any wc kd 8 (by omega) HK.out.2
    rw [HK.out.1] at tp
    clear HC HI HI0 hdc hbl hdv' hA
    generalize hCS : (#[.int .i64 kd, .int .i64 c, .int .u64 tk, dv', .int .i64 a0, .int .i64 a1, .int .i64 a2, .int .i64 a3, .int .i64 a4, .slice va n1 vc, .slice vb n2 vd] : Array Value) = CS at HS
    have HCS : Hid ((#[.int .i64 kd, .int .i64 c, .int .u64 tk, dv', .int .i64 a0, .int .i64 a1, .int .i64 a2, .int .i64 a3, .int .i64 a4, .slice va n1 vc, .slice vb n2 vd] : Array Value) = CS) := hCS
    clear hCS
    have AC : Hid (∀ (wx : World), wx.heap[A]? = some (.cells CS 66 (0, 0)) → wx.cell? ⟨A, 0, none⟩ = some (.int .i64 kd) ∧ wx.cell? ⟨A, 1, none⟩ = some (.int .i64 c) ∧ wx.cell? ⟨A, 2, none⟩ = some (.int .u64 tk) ∧ wx.cell? ⟨A, 3, none⟩ = some dv') := fun wx hb => by
      rw [← HCS.out] at hb
      exact ⟨(cells_at hb 0).1, (cells_at hb 1).1, (cells_at hb 2).1, (cells_at hb 3).1⟩
    go_wp2_with fail
    go_at_call 11
    refine tp.mono ?_
    rintro e wp ⟨rfl, rfl⟩
    clear tp
    go_upto_region 37 with fail
    obtain ⟨I0, _⟩ := HS.out
    have SC : Hid (∀ (wx : World), wx.heap[A]? = some (.cells CS 66 (0, 0)) → wx.cell? ⟨A, 4, none⟩ = some (.int .i64 a0) ∧ wx.cell? ⟨A, 5, none⟩ = some (.int .i64 a1) ∧ wx.cell? ⟨A, 6, none⟩ = some (.int .i64 a2) ∧ wx.cell? ⟨A, 7, none⟩ = some (.int .i64 a3) ∧ wx.cell? ⟨A, 8, none⟩ = some (.int .i64 a4) ∧ wx.cell? ⟨A, 9, none⟩ = some (.slice va n1 vc) ∧ wx.cell? ⟨A, 10, none⟩ = some (.slice vb n2 vd)) := fun wx hb => by
      rw [← HCS.out] at hb
      exact ⟨(cells_at hb 4).1, (cells_at hb 5).1, (cells_at hb 6).1, (cells_at hb 7).1, (cells_at hb 8).1, (cells_at hb 9).1, (cells_at hb 10).1⟩
    have kd0 := Kp.drew wp
    have I1 := I0.kp kd0
    have kz := Kp.al wp.drew (.cells #[.int .i64 0, .int .i64 0, .int .i64 0, .int .i64 0, .int .i64 0, .slice none 0 0, .slice none 0 0] 64)
    have I1z := I1.kp kz
    have xcs : x.cs = #[.int .i64 a0, .int .i64 a1, .int .i64 a2, .int .i64 a3, .int .i64 a4, .slice va n1 vc, .slice vb n2 vd] := by
      unfold SV.cs
      obtain ⟨q0, q1, q2, q3, q4⟩ := AX.out
      rw [EV.out.1, EV.out.2.1, ← NX.out.1, ← NX.out.2, q0, q1, q2, q3, q4]
    have tA := I1.lent HH.out.sz x HH.out.xr HH.out.xl.1 HH.out.xl.2 HH.out.xb (by have := HH.out.hg; omega) HH.out.hl
    have tB := I1z.lent HH.out.sz x HH.out.xr HH.out.xl.1 HH.out.xl.2 HH.out.xb (by have := HH.out.hg; omega) HH.out.hl
    rw [xcs] at tA tB
    have ax := AX.out
    rw [← ax.1, ← ax.2.1, ← ax.2.2.1, ← ax.2.2.2.1, ← ax.2.2.2.2, ← NX.out.1, ← NX.out.2] at tA tB
    obtain ⟨j0, hj0⟩ : ∃ j, j = b.L.length := ⟨_, rfl⟩
    rw [← hj0] at tA tB
    have fz0 := I0.pl.bk.m.fz
    have szw : w.heap.size ≤ wp.heap.size := I0.sd.c.size
    have ltA : A < wp.heap.size := hp_lt I0.bx
    refine reg17_37 wp K A n1 n2 a0 a1 a2 a3 a4 (.slice va n1 vc) (.slice vb n2 vd) (SC.out _ I1.bx) (SC.out _ I1z.bx) (fun T g1 c1 g2 c2 wx => ∃ σ' b' N1 N2, SI W w σ K U A CS wx σ' b' P Q ∧ Sz b' (g + 2500000) h o r (l + 2) d ∧ b'.V 8 = .bool st ∧ LF wx σ' b' j0 x.lq x.ls g1 c1 g2 c2 N1 N2 ∧ wx.heap[T]? = some (.cells #[.int .i64 a0, .int .i64 a1, .int .i64 a2, .int .i64 a3, .int .i64 a4, .slice (some ⟨g1, 0, none⟩) n1 c1, .slice (some ⟨g2, 0, none⟩) n2 c2] 64 (0, 0)) ∧ σ' T = (0, 0) ∧ T ≠ A) ?_ ?_ _ (fun _ _ _ q _ h => by cases q <;> exact h) ?_
    · refine tA.mono ?_
      rintro e x1 ⟨g1, c1, g2, c2, rfl, N1,N2, σ', b', I2, s2, v2, F2, sd2⟩
      have fz2 := I2.pl.bk.m.fz
      have k1 := Kp.al x1 (.cells #[.int .i64 a0, .int .i64 a1, .int .i64 a2, .int .i64 a3, .int .i64 a4, .slice (some ⟨g1, 0, none⟩) n1 c1, .slice (some ⟨g2, 0, none⟩) n2 c2] 64)
      exact ⟨g1, c1, g2, c2, rfl, SC.out _ I2.bx, SC.out _ ((Kp.al x1 _).heap I2.bx), SC.out _ ((Kp.al x1 _).heap I2.bx), σ', b', N1,N2,I2.kp k1, s2, v2.trans HH.out.v8, F2.kp k1 fz2, heap_alloc_new x1 _, fz2 _ (Nat.le_refl _), fun e => by have := hp_lt I2.bx; omega⟩
    · refine tB.mono ?_
      rintro e x1 ⟨g1, c1, g2, c2, rfl, N1,N2, σ', b', I2, s2, v2, F2, sd2⟩
      have hT0 : (wp.drew.alloc (.cells #[.int .i64 0, .int .i64 0, .int .i64 0, .int .i64 0, .int .i64 0, .slice none 0 0, .slice none 0 0] 64)).heap[wp.heap.size]? = some (.cells #[.int .i64 0, .int .i64 0, .int .i64 0, .int .i64 0, .int .i64 0, .slice none 0 0, .slice none 0 0] 64 (0, 0)) := heap_alloc_new wp.drew _
      have lT0 : σ wp.heap.size = (0, 0) := fz0 _ (Nat.le_refl _)
      have hT1 := sd2.heap hT0 (.inl lT0)
      have lT1 : σ' wp.heap.size = (0, 0) := by rw [sd2.k _ (hp_lt hT0) (.inl lT0)]; exact lT0
      obtain ⟨T, hT⟩ : ∃ T, T = wp.heap.size := ⟨_, rfl⟩
      rw [← hT] at hT1 lT1 ⊢
      have hch : Chg x1 (((((((x1.setCell ⟨T, 0, none⟩ (.int .i64 a0)).setCell ⟨T, 1, none⟩ (.int .i64 a1)).setCell ⟨T, 2, none⟩ (.int .i64 a2)).setCell ⟨T, 3, none⟩ (.int .i64 a3)).setCell ⟨T, 4, none⟩ (.int .i64 a4)).setCell ⟨T, 5, none⟩ (.slice (some ⟨g1, 0, none⟩) n1 c1)).setCell ⟨T, 6, none⟩ (.slice (some ⟨g2, 0, none⟩) n2 c2)) (fun k => k = T) := (Chg.setCell (S := fun k => k = T) (Chg.setCell (S := fun k => k = T) (Chg.setCell (S := fun k => k = T) (Chg.setCell (S := fun k => k = T) (Chg.setCell (S := fun k => k = T) (Chg.setCell (S := fun k => k = T) (Chg.setCell (S := fun k => k = T) (Chg.refl x1 _) (.inl rfl) _) (.inl rfl) _) (.inl rfl) _) (.inl rfl) _) (.inl rfl) _) (.inl rfl) _) (.inl rfl) _)
      have hb7 : (((((((x1.setCell ⟨T, 0, none⟩ (.int .i64 a0)).setCell ⟨T, 1, none⟩ (.int .i64 a1)).setCell ⟨T, 2, none⟩ (.int .i64 a2)).setCell ⟨T, 3, none⟩ (.int .i64 a3)).setCell ⟨T, 4, none⟩ (.int .i64 a4)).setCell ⟨T, 5, none⟩ (.slice (some ⟨g1, 0, none⟩) n1 c1)).setCell ⟨T, 6, none⟩ (.slice (some ⟨g2, 0, none⟩) n2 c2)).heap[T]? = some (.cells #[.int .i64 a0, .int .i64 a1, .int .i64 a2, .int .i64 a3, .int .i64 a4, .slice (some ⟨g1, 0, none⟩) n1 c1, .slice (some ⟨g2, 0, none⟩) n2 c2] 64 (0, 0)) := by
        rw [(heap_setCell_same _ T 6 _ 64 _ (heap_setCell_same _ T 5 _ 64 _ (heap_setCell_same _ T 4 _ 64 _ (heap_setCell_same _ T 3 _ 64 _ (heap_setCell_same _ T 2 _ 64 _ (heap_setCell_same _ T 1 _ 64 _ (heap_setCell_same _ T 0 _ 64 _ hT1)))))))]
        rfl
      have nTA : T ≠ A := by omega
      have I3 := I2.more hch (fun k e => ⟨by rw [e]; exact lT1, by omega, by omega⟩)
      have F3 := F2.move (σ2 := σ') hch (fun k e => by rw [e, lT1]) (fun _ _ => rfl) I2.pl.bk.m.fz
      refine ⟨g1, c1, g2, c2, rfl, SC.out _ I2.bx, ⟨⟨_, (cells_at hT1 0).1⟩, ⟨_, (cells_at hT1 1).1⟩, ⟨_, (cells_at hT1 2).1⟩, ⟨_, (cells_at hT1 3).1⟩, ⟨_, (cells_at hT1 4).1⟩, ⟨_, (cells_at hT1 5).1⟩, ⟨_, (cells_at hT1 6).1⟩, (cells_at hT1 0).2, (cells_at hT1 1).2, (cells_at hT1 2).2, (cells_at hT1 3).2, (cells_at hT1 4).2, (cells_at hT1 5).2, (cells_at hT1 6).2⟩, SC.out _ I3.bx, σ', b', N1,N2,I3, s2, v2.trans HH.out.v8, F3, hb7, lT1, nTA⟩
    intro T g1 c1 g2 c2 w2 HX
    obtain ⟨σ2, b2, N1,N2,I2, s2, v2, F2, bT2, lT2, nTA⟩ := HX
    have HL2 : Hid (SI W w σ K U A CS w2 σ2 b2 P Q ∧ Sz b2 (g + 2500000) h o r (l + 2) d ∧ b2.V 8 = .bool st ∧ LF w2 σ2 b2 j0 x.lq x.ls g1 c1 g2 c2 N1 N2 ∧ w2.heap[T]? = some (.cells #[.int .i64 a0, .int .i64 a1, .int .i64 a2, .int .i64 a3, .int .i64 a4, .slice (some ⟨g1, 0, none⟩) n1 c1, .slice (some ⟨g2, 0, none⟩) n2 c2] 64 (0, 0)) ∧ σ2 T = (0, 0) ∧ T ≠ A) := ⟨I2, s2, v2, F2, bT2, lT2, nTA⟩
    have TCC : Hid (∀ (wx : World), wx.heap[T]? = some (.cells #[.int .i64 a0, .int .i64 a1, .int .i64 a2, .int .i64 a3, .int .i64 a4, .slice (some ⟨g1, 0, none⟩) n1 c1, .slice (some ⟨g2, 0, none⟩) n2 c2] 64 (0, 0)) → wx.cell? ⟨T, 0, none⟩ = some (.int .i64 a0) ∧ wx.cell? ⟨T, 1, none⟩ = some (.int .i64 a1) ∧ wx.cell? ⟨T, 2, none⟩ = some (.int .i64 a2) ∧ wx.cell? ⟨T, 3, none⟩ = some (.int .i64 a3) ∧ wx.cell? ⟨T, 4, none⟩ = some (.int .i64 a4) ∧ wx.cell? ⟨T, 5, none⟩ = some (.slice (some ⟨g1, 0, none⟩) n1 c1) ∧ wx.cell? ⟨T, 6, none⟩ = some (.slice (some ⟨g2, 0, none⟩) n2 c2)) := fun wx hb => ⟨(cells_at hb 0).1, (cells_at hb 1).1, (cells_at hb 2).1, (cells_at hb 3).1, (cells_at hb 4).1, (cells_at hb 5).1, (cells_at hb 6).1⟩
    clear I0 kd0 I1 kz I1z xcs tA tB ax hj0 fz0 szw ltA I2 s2 v2 F2 bT2 lT2 nTA z0
    go_upto_region 38 with fail
    obtain ⟨I2, s2, v2, F2, bT2, lT2, nTA⟩ := HL2.out
    have kd0 := Kp.drew w2
    have I3 := I2.kp kd0
    have F3 := F2.kp kd0 I2.pl.bk.m.fz
    have bT3 := kd0.heap bT2
    obtain ⟨rq, rs, m1, m2, lg1, lg2⟩ := F3.rd I3 HH.out.xl.1 HH.out.xl.2
    rw [← NX.out.1] at rq m1
    rw [← NX.out.2] at rs m2
    have xr := HH.out.xr
    have ax := AX.out
    have xrd : (SV.mk a0 a1 a2 a3 a4 (.slice (some ⟨g1, 0, none⟩) n1 c1) (.slice (some ⟨g2, 0, none⟩) n2 c2) (N1.take n1) (N2.take n2)).rd w2.drew := ⟨rq, rs, by have := xr.ra; rw [← ax.1] at this; exact this, by have := xr.rr; rw [← ax.2.1] at this; exact this, by have := xr.rl; rw [← ax.2.2.2.2] at this; exact this⟩
    have lB : σ2 P.B = (0, 1) := I3.pl.lq P.B (.inl (.inl rfl))
    have xoff : (SV.mk a0 a1 a2 a3 a4 (.slice (some ⟨g1, 0, none⟩) n1 c1) (.slice (some ⟨g2, 0, none⟩) n2 c2) (N1.take n1) (N2.take n2)).off P.B := ⟨fun e => by
        have e2 : g1 = P.B := by simpa [blk] using e
        rw [e2, lB] at lg1; simp at lg1, fun e => by
        have e2 : g2 = P.B := by simpa [blk] using e
        rw [e2, lB] at lg2; simp at lg2, fun y hy e => by
        rcases List.mem_append.1 hy with hy | hy
        · have := (F3.b1 y (List.mem_of_mem_take hy)).2 _ e; rw [lB] at this; simp at this
        · have := (F3.b2 y (List.mem_of_mem_take hy)).2 _ e; rw [lB] at this; simp at this⟩
    refine reg17_38 w2 K T P.B a0 a1 a2 a3 a4 (.slice (some ⟨g1, 0, none⟩) n1 c1) (.slice (some ⟨g2, 0, none⟩) n2 c2) ⟨I3.kc.1, TCC.out _ bT3⟩ (fun e1 wx => e1 = ldE P.p.d (SV.mk a0 a1 a2 a3 a4 (.slice (some ⟨g1, 0, none⟩) n1 c1) (.slice (some ⟨g2, 0, none⟩) n2 c2) (N1.take n1) (N2.take n2)) ∧ ∃ σ' P', SI W w σ K U A CS wx σ' b2 P' Q ∧ LF wx σ' b2 j0 x.lq x.ls g1 c1 g2 c2 N1 N2 ∧ wx.heap[T]? = some (.cells #[.int .i64 a0, .int .i64 a1, .int .i64 a2, .int .i64 a3, .int .i64 a4, .slice (some ⟨g1, 0, none⟩) n1 c1, .slice (some ⟨g2, 0, none⟩) n2 c2] 64 (0, 0)) ∧ σ' T = (0, 0) ∧ (ldB P.p.d (SV.mk a0 a1 a2 a3 a4 (.slice (some ⟨g1, 0, none⟩) n1 c1) (.slice (some ⟨g2, 0, none⟩) n2 c2) (N1.take n1) (N2.take n2)) = false ∧ P'.p = P.p ∨ ldB P.p.d (SV.mk a0 a1 a2 a3 a4 (.slice (some ⟨g1, 0, none⟩) n1 c1) (.slice (some ⟨g2, 0, none⟩) n2 c2) (N1.take n1) (N2.take n2)) = true ∧ ∃ lq ls, P'.p = ⟨P.p.d, a0, a1, a4, lq, ls⟩ ∧ Sm (N1.take n1) lq ∧ Sm (N2.take n2) ls)) ?_ _ (fun _ _ _ q _ h => by cases q <;> exact h) ?_
    · refine (I3.load (SV.mk a0 a1 a2 a3 a4 (.slice (some ⟨g1, 0, none⟩) n1 c1) (.slice (some ⟨g2, 0, none⟩) n2 c2) (N1.take n1) (N2.take n2)) xrd xoff).mono ?_
      rintro e x1 ⟨rfl, σ', P', I4, hB, hx, hc, hcase⟩
      have bT4 := hc.heap bT3 (fun e => by rw [e, lB] at lT2; simp at lT2)
      exact ⟨_, rfl, ⟨by have := I4.kc.1; rw [hB] at this; exact this, TCC.out _ bT4⟩, rfl, σ', P', I4,F3.move hc (fun k e => by rw [e, lB]) hx I3.pl.bk.m.fz, bT4, by rw [hx T (hp_lt bT3)]; exact lT2, hcase⟩
    intro e1 w3 HX
    obtain ⟨he1, σ3, P3,I4,F4, bT4, lT4, hcase⟩ := HX
    have HL4 : Hid (SI W w σ K U A CS w3 σ3 b2 P3 Q ∧ LF w3 σ3 b2 j0 x.lq x.ls g1 c1 g2 c2 N1 N2 ∧ w3.heap[T]? = some (.cells #[.int .i64 a0, .int .i64 a1, .int .i64 a2, .int .i64 a3, .int .i64 a4, .slice (some ⟨g1, 0, none⟩) n1 c1, .slice (some ⟨g2, 0, none⟩) n2 c2] 64 (0, 0)) ∧ σ3 T = (0, 0) ∧ (ldB P.p.d (SV.mk a0 a1 a2 a3 a4 (.slice (some ⟨g1, 0, none⟩) n1 c1) (.slice (some ⟨g2, 0, none⟩) n2 c2) (N1.take n1) (N2.take n2)) = false ∧ P3.p = P.p ∨ ldB P.p.d (SV.mk a0 a1 a2 a3 a4 (.slice (some ⟨g1, 0, none⟩) n1 c1) (.slice (some ⟨g2, 0, none⟩) n2 c2) (N1.take n1) (N2.take n2)) = true ∧ ∃ lq ls, P3.p = ⟨P.p.d, a0, a1, a4, lq, ls⟩ ∧ Sm (N1.take n1) lq ∧ Sm (N2.take n2) ls) ∧ e1 = ldE P.p.d (SV.mk a0 a1 a2 a3 a4 (.slice (some ⟨g1, 0, none⟩) n1 c1) (.slice (some ⟨g2, 0, none⟩) n2 c2) (N1.take n1) (N2.take n2))) := ⟨I4,F4, bT4, lT4, hcase, he1⟩
    have HM : Hid (Sm x.lq (N1.take n1) ∧ Sm x.ls (N2.take n2)) := ⟨m1, m2⟩
    clear I2 s2 v2 F2 bT2 lT2 nTA kd0 I3 F3 bT3 rq rs m1 m2 lg1 lg2 xr ax xrd lB xoff I4 F4 bT4 lT4 hcase he1
    go_upto_region 39 with fail
    obtain ⟨I4,F4, bT4, lT4, hcase, he1⟩ := HL4.out
    have kd0 := Kp.drew w3
    have I5 := I4.kp kd0
    have F5 := F4.kp kd0 I4.pl.bk.m.fz
    have bT5 := kd0.heap bT4
    have lF : σ3 Q.B = (0, 2) := I5.pl.lf Q.B (.inl (.inl rfl))
    have t36 := I5.rload x (HH.out.xr.kp I5.pl.kW)
    have ax := AX.out
    rw [EV.out.1, EV.out.2.1, ← NX.out.1, ← NX.out.2, ← ax.1, ← ax.2.1, ← ax.2.2.1, ← ax.2.2.2.1, ← ax.2.2.2.2] at t36
    refine reg17_39 w3 K A Q.B a0 a1 a2 a3 a4 (.slice va n1 vc) (.slice vb n2 vd) ⟨I5.kc.2, SC.out _ I5.bx⟩ (fun e2 wx => e2 = e1 ∧ ∃ σ' Q', SI W w σ K U A CS wx σ' b2 P3 Q' ∧ LF wx σ' b2 j0 x.lq x.ls g1 c1 g2 c2 N1 N2 ∧ wx.heap[T]? = some (.cells #[.int .i64 a0, .int .i64 a1, .int .i64 a2, .int .i64 a3, .int .i64 a4, .slice (some ⟨g1, 0, none⟩) n1 c1, .slice (some ⟨g2, 0, none⟩) n2 c2] 64 (0, 0)) ∧ σ' T = (0, 0) ∧ QE P3.p Q'.p ∧ P3.p.d = P.p.d) ?_ _ (fun _ _ _ q _ h => by cases q <;> exact h) ?_
    · refine t36.mono ?_
      rintro e x1 ⟨rfl, σ', Q', I6, hB, hx, hc, hcase2⟩
      have bT6 := hc.heap bT5 (fun e => by rw [e, lF] at lT4; simp at lT4)
      have hm := HM.out
      obtain ⟨q1, q2, q3⟩ := qe_load (x := (SV.mk a0 a1 a2 a3 a4 (.slice (some ⟨g1, 0, none⟩) n1 c1) (.slice (some ⟨g2, 0, none⟩) n2 c2) (N1.take n1) (N2.take n2))) (y := x) HH.out.qe ax.1.symm ax.2.1.symm ax.2.2.1.symm ax.2.2.2.1.symm ax.2.2.2.2.symm hm.1.symm hm.2.symm hcase (by
        rw [ax.1, ax.2.1, ax.2.2.2.2] at hcase2
        exact hcase2)
      exact ⟨_, rfl, ⟨by have := I6.kc.2; rw [hB] at this; exact this, SC.out _ I6.bx⟩, by rw [he1]; exact q2, σ', Q', I6,F5.move hc (fun k e => by rw [e, lF]) hx I5.pl.bk.m.fz, bT6, by rw [hx T (hp_lt bT5)]; exact lT4, q1, q3⟩
    intro e2 w6 HX
    obtain ⟨rfl, σ6, Q6,I6,F6, bT6, lT6, qe6, d6⟩ := HX
    have HL6 : Hid (SI W w σ K U A CS w6 σ6 b2 P3 Q6 ∧ LF w6 σ6 b2 j0 x.lq x.ls g1 c1 g2 c2 N1 N2 ∧ w6.heap[T]? = some (.cells #[.int .i64 a0, .int .i64 a1, .int .i64 a2, .int .i64 a3, .int .i64 a4, .slice (some ⟨g1, 0, none⟩) n1 c1, .slice (some ⟨g2, 0, none⟩) n2 c2] 64 (0, 0)) ∧ σ6 T = (0, 0) ∧ QE P3.p Q6.p ∧ P3.p.d = P.p.d) := ⟨I6,F6, bT6, lT6, qe6, d6⟩
    have t18 := I6.looks HL2.out.2.1 (by have := HH.out.hg; omega) (by have := HH.out.hh; omega) (by have := HH.out.ho; omega) (by have := HH.out.hr; omega) (by have := HH.out.hl; omega) (by have := HH.out.hd; omega)
    clear I4 F4 bT4 lT4 hcase he1 kd0 I5 F5 bT5 lF t36 ax I6 F6 bT6 lT6 qe6 d6
    go_wp2_with fail
    go_at_call 18
    refine t18.mono ?_
    rintro e w9 ⟨rfl, k9⟩
    have I9 := HL6.out.1.kp k9
    have F9 := HL6.out.2.1.kp k9 HL6.out.1.pl.bk.m.fz
    have bT9 := k9.heap HL6.out.2.2.1
    have t29 := I9.turns HL2.out.2.1 (by have := HH.out.hg; omega) (by have := HH.out.hl; omega)
    have H9 : Hid (LF w9 σ6 b2 j0 x.lq x.ls g1 c1 g2 c2 N1 N2 ∧ w9.heap[T]? = some (.cells #[.int .i64 a0, .int .i64 a1, .int .i64 a2, .int .i64 a3, .int .i64 a4, .slice (some ⟨g1, 0, none⟩) n1 c1, .slice (some ⟨g2, 0, none⟩) n2 c2] 64 (0, 0))) := ⟨F9, bT9⟩
    clear t18 k9 I9 F9 bT9
    go_wp2_with fail
    go_at_call 29
    refine t29.mono ?_
    rintro e w10 ⟨rfl, b10, I10, s10, eV, eG10, eL10, eX2, eX6, c10⟩
    have HI10 : Hid (SI W w σ K U A CS w10 σ6 b10 P3 Q6 ∧ Sz b10 (g + 2500000) h o r (l + 2) d ∧ b10.V 8 = .bool st ∧ OM w10 (.slice (some ⟨g1, 0, none⟩) n1 c1) (List.replicate n1 (mz 444)) ∧ OM w10 (.slice (some ⟨g2, 0, none⟩) n2 c2) (List.replicate n2 (mz 444)) ∧ (σ6 g1).1 = 6 ∧ (σ6 g2).1 = 6 ∧ w10.heap[T]? = some (.cells #[.int .i64 a0, .int .i64 a1, .int .i64 a2, .int .i64 a3, .int .i64 a4, .slice (some ⟨g1, 0, none⟩) n1 c1, .slice (some ⟨g2, 0, none⟩) n2 c2] 64 (0, 0)) ∧ σ6 T = (0, 0)) := by
      obtain ⟨F9, bT9⟩ := H9.out
      obtain ⟨m1, m2, m3, m4⟩ := F9.marks I10 eX6 eL10
      rw [← NX.out.1] at m1
      rw [← NX.out.2] at m2
      refine ⟨I10, s10, by rw [eV]; exact HL2.out.2.2.1, m1, m2, m3, m4, c10.heap bT9 (fun e => e.ne HL6.out.2.2.2.1), HL6.out.2.2.2.1⟩
    have z10 : w10.cell? ⟨A, 0, none⟩ = some (.int .i64 kd) := (AC.out _ I10.bx).1
    have hq8b : -9223372036854775808 ≤ kd.tdiv 8 ∧ kd.tdiv 8 ≤ 9223372036854775807 := by
      have := HK.out.2
      rcases Int.le_total 0 kd with h1 | h1
      · have h2 := Int.tdiv_le_self 8 h1
        have h3 := Int.tdiv_nonneg h1 (by omega : (0 : Int) ≤ 8)
        omega
      · have h2 : kd.tdiv 8 = -((-kd).tdiv 8) := by rw [Int.neg_tdiv]; simp
        have h3 := Int.tdiv_le_self (a := -kd) 8 (by omega)
        have h4 := Int.tdiv_nonneg (a := -kd) (b := 8) (by omega) (by omega)
        omega
    have hw8 : IntKind.i64.wrap (kd.tdiv 8) = kd.tdiv 8 := w64 hq8b.1 hq8b.2
    have tp2 := pick_any w10 (kd.tdiv 8) 2 (by omega) hq8b
    clear t29 I10 s10 eV eG10 eL10 eX2 eX6 c10 hq8b
    go_wp2_with fail
    go_at_call 11
    refine tp2.mono ?_
    rintro e w11 ⟨rfl, rfl⟩
    clear tp2 hw8 z10
    by_cases hagain : pk (kd.tdiv 8) 2 = 1
    · obtain ⟨I10, s10, v10, om1, om2, lg1, lg2, bT10, lT10⟩ := HI10.out
      obtain ⟨y0, y1, y2, y3, y4, y5, y6⟩ := TCC.out _ bT10
      obtain ⟨C, hC⟩ : ∃ C, C = w11.heap.size := ⟨_, rfl⟩
      obtain ⟨w12, hw12⟩ : ∃ w12, w12 = w11.alloc (.cells #[.int .i64 a0, .int .i64 a1, .int .i64 a2, .int .i64 a3, .int .i64 a4, .slice none 0 0, .slice none 0 0] 64) := ⟨_, rfl⟩
      have hn1 : n1 ≤ 1048576 := by rw [NX.out.1]; exact HH.out.xl.1
      have hn2 : n2 ≤ 1048576 := by rw [NX.out.2]; exact HH.out.xl.2
      have J0 : Hid (CI W w σ K U A CS σ6 b10 P3 Q6 T C #[.int .i64 a0, .int .i64 a1, .int .i64 a2, .int .i64 a3, .int .i64 a4, .slice (some ⟨g1, 0, none⟩) n1 c1, .slice (some ⟨g2, 0, none⟩) n2 c2] a0 a1 a2 a3 a4 g1 c1 n1 g2 c2 n2 w11 0 0 (.slice none 0 0) (.slice none 0 0) w12) := by
        have k12 : Kp w11 w12 := by rw [hw12]; exact Kp.al _ _
        have fz := I10.pl.bk.m.fz
        exact ⟨I10.kp k12, k12.heap bT10, by rw [hw12, hC]; exact heap_alloc_new w11 _, OM.nil _, OM.nil _, fun k hk => by simp [Value.ownBlock] at hk, fun k hk => by simp [Value.ownBlock] at hk, fun k hk => by simp [Value.ownBlock] at hk, Chg.owns k12 om1 (fun _ _ h => h), Chg.owns k12 om2 (fun _ _ h => h), fz, ⟨hp_lt bT10, fz.lt (by omega), fz.lt (by omega), hp_lt I10.bx, by omega, I10.sd.c.size⟩, k12.size⟩
      clear I10 s10 v10 om1 om2 lg1 lg2 bT10 lT10 y5 y6
      go_upto_region 44 with fail
      rw [← hC, ← hw12]
      clear y0 y1 y2 y3 y4 hC hw12
      have CX : Hid (∀ i j u1 u2 wx, CI W w σ K U A CS σ6 b10 P3 Q6 T C #[.int .i64 a0, .int .i64 a1, .int .i64 a2, .int .i64 a3, .int .i64 a4, .slice (some ⟨g1, 0, none⟩) n1 c1, .slice (some ⟨g2, 0, none⟩) n2 c2] a0 a1 a2 a3 a4 g1 c1 n1 g2 c2 n2 w11 i j u1 u2 wx → wx.cell? ⟨T, 5, none⟩ = some (.slice (some ⟨g1, 0, none⟩) n1 c1) ∧ wx.cell? ⟨T, 6, none⟩ = some (.slice (some ⟨g2, 0, none⟩) n2 c2)) := fun i j u1 u2 wx I => by
        obtain ⟨_, _, _, _, _, y5, y6⟩ := TCC.out _ I.bt
        exact ⟨y5, y6⟩
      go_wp2_with fail
      go_loopw [30] (fun s30 wr => ∃ (i : Nat) (ua : Option Addr) (uc : Nat), s30 = .int .i64 (i : Nat) ∧ i ≤ n1 ∧ Hid (CI W w σ K U A CS σ6 b10 P3 Q6 T C #[.int .i64 a0, .int .i64 a1, .int .i64 a2, .int .i64 a3, .int .i64 a4, .slice (some ⟨g1, 0, none⟩) n1 c1, .slice (some ⟨g2, 0, none⟩) n2 c2] a0 a1 a2 a3 a4 g1 c1 n1 g2 c2 n2 w11 i 0 (.slice ua i uc) (.slice none 0 0) wr)) (fun s30 _ => n1 - nI s30)
      case atStart => exact ⟨0, none, 0, rfl, by omega, J0⟩
      case round =>
        obtain ⟨i, ua, uc, rfl, hi, HI⟩ := hrel
        clear J0
        obtain ⟨x5, x6⟩ := CX.out _ _ _ _ _ HI.out
        by_cases hlt : i < n1
        · have hz : (i : Int) < (n1 : Nat) := by omega
          have kd0 := Kp.drew wr
          have Id := HI.out.kp kd0
          obtain ⟨a', c', w', hr, ⟨S, hcS, hS⟩, bC', IN⟩ := Id.step1 (by omega)
          have ka := Kp.al wr.drew (.cells #[.slice none 0 0, .int .u64 444] 75)
          have Ia := Id.kp ka
          have rowc : ∀ wx, OM wx (.slice (some ⟨g1, 0, none⟩) n1 c1) (List.replicate n1 (mz 444)) → wx.cell? ⟨g1, i * 2 + 1, none⟩ = some (.int .u64 444) := fun wx ho => by
            have := (OM.cg (g := g1) (cap := c1) (xs := List.replicate n1 (mz 444)) (w := wx) (by simpa using ho) i (by simpa using hlt)).2.1
            simpa [mz] using this
          obtain ⟨r1, r2, r3, r4⟩ := Id.rest hcS (fun k e => (hS k e).1)
          have cT' : w'.cell? ⟨T, 5, none⟩ = some (.slice (some ⟨g1, 0, none⟩) n1 c1) := (TCC.out _ r2).2.2.2.2.2.1
          go_upto_region 47 with fail
          refine reg17_47 wr w' T C g1 n1 c1 i i uc (i + 1) c' ua a' 444 hlt ⟨(CX.out _ _ _ _ _ Id).1, rowc _ Id.m1⟩ (by rw [(cells_at Id.bc 5).1]; rfl) ⟨(CX.out _ _ _ _ _ Ia).1, rowc _ Ia.m1⟩ hr ⟨cT', rowc _ r3⟩ ⟨_, (cells_at bC' 5).1⟩ ⟨(CX.out _ _ _ _ _ IN).1, rowc _ IN.m1⟩ (cells_at bC' 5).2 _ (fun _ _ _ q _ h => by cases q <;> exact h) ?_
          have HN2 : Hid (CI W w σ K U A CS σ6 b10 P3 Q6 T C #[.int .i64 a0, .int .i64 a1, .int .i64 a2, .int .i64 a3, .int .i64 a4, .slice (some ⟨g1, 0, none⟩) n1 c1, .slice (some ⟨g2, 0, none⟩) n2 c2] a0 a1 a2 a3 a4 g1 c1 n1 g2 c2 n2 w11 (i + 1) 0 (.slice a' (i + 1) c') (.slice none 0 0) (w'.setCell ⟨C, 5, none⟩ (.slice a' (i + 1) c'))) := IN
          clear kd0 Id hr hcS hS bC' IN ka Ia rowc r1 r2 r3 r4 cT' HI x5 x6
          go_wp2_with fail
          exact ⟨⟨i + 1, a', c', by go_num, by omega, HN2⟩, by simp [nI]; omega⟩
        · have hz : ¬ (i : Int) < (n1 : Nat) := by omega
          have hin : i = n1 := by omega
          subst hin
          clear hi
          go_wp2_with fail
          clear x5 x6
          rename World => w15
          go_loopw [31] (fun s31 wr => ∃ (j : Nat) (ub : Option Addr) (ud : Nat), s31 = .int .i64 (j : Nat) ∧ j ≤ n2 ∧ Hid (CI W w σ K U A CS σ6 b10 P3 Q6 T C #[.int .i64 a0, .int .i64 a1, .int .i64 a2, .int .i64 a3, .int .i64 a4, .slice (some ⟨g1, 0, none⟩) i c1, .slice (some ⟨g2, 0, none⟩) n2 c2] a0 a1 a2 a3 a4 g1 c1 i g2 c2 n2 w11 i j (.slice ua i uc) (.slice ub j ud) wr)) (fun s31 _ => n2 - nI s31)
          case atStart => exact ⟨0, none, 0, rfl, by omega, HI⟩
          case round =>
            obtain ⟨j, ub, ud, rfl, hj, HJ⟩ := hrel
            clear HI
            obtain ⟨x5, x6⟩ := CX.out _ _ _ _ _ HJ.out
            by_cases hlt : j < n2
            · have hz2 : (j : Int) < (n2 : Nat) := by omega
              have kd0 := Kp.drew wr
              have Id := HJ.out.kp kd0
              obtain ⟨a', c', w', hr, ⟨S, hcS, hS⟩, bC', IN⟩ := Id.step2 (by omega)
              have ka := Kp.al wr.drew (.cells #[.slice none 0 0, .int .u64 444] 75)
              have Ia := Id.kp ka
              have rowc : ∀ wx, OM wx (.slice (some ⟨g2, 0, none⟩) n2 c2) (List.replicate n2 (mz 444)) → wx.cell? ⟨g2, j * 2 + 1, none⟩ = some (.int .u64 444) := fun wx ho => by
                have := (OM.cg (g := g2) (cap := c2) (xs := List.replicate n2 (mz 444)) (w := wx) (by simpa using ho) j (by simpa using hlt)).2.1
                simpa [mz] using this
              obtain ⟨r1, r2, r3, r4⟩ := Id.rest hcS (fun k e => (hS k e).1)
              have cT' : w'.cell? ⟨T, 6, none⟩ = some (.slice (some ⟨g2, 0, none⟩) n2 c2) := (TCC.out _ r2).2.2.2.2.2.2
              go_upto_region 51 with fail
              refine reg17_51 wr w' T C g2 n2 c2 j j ud (j + 1) c' ub a' 444 hlt ⟨(CX.out _ _ _ _ _ Id).2, rowc _ Id.m2⟩ (by rw [(cells_at Id.bc 6).1]; rfl) ⟨(CX.out _ _ _ _ _ Ia).2, rowc _ Ia.m2⟩ hr ⟨cT', rowc _ r4⟩ ⟨_, (cells_at bC' 6).1⟩ ⟨(CX.out _ _ _ _ _ IN).2, rowc _ IN.m2⟩ (cells_at bC' 6).2 _ (fun _ _ _ q _ h => by cases q <;> exact h) ?_
              have HN2 : Hid (CI W w σ K U A CS σ6 b10 P3 Q6 T C #[.int .i64 a0, .int .i64 a1, .int .i64 a2, .int .i64 a3, .int .i64 a4, .slice (some ⟨g1, 0, none⟩) i c1, .slice (some ⟨g2, 0, none⟩) n2 c2] a0 a1 a2 a3 a4 g1 c1 i g2 c2 n2 w11 i (j + 1) (.slice ua i uc) (.slice a' (j + 1) c') (w'.setCell ⟨C, 6, none⟩ (.slice a' (j + 1) c'))) := IN
              clear kd0 Id hr hcS hS bC' IN ka Ia rowc r1 r2 r3 r4 cT' HJ x5 x6
              go_wp2_with fail
              exact ⟨⟨j + 1, a', c', by go_num, by omega, HN2⟩, by simp [nI]; omega⟩
            · have hz2 : ¬ (j : Int) < (n2 : Nat) := by omega
              have hjn : j = n2 := by omega
              subst hjn
              clear hj
              go_upto_region 52 with fail
              clear x5 x6
              have IJ := HJ.out
              have kd0 := Kp.drew wr
              have Id := IJ.kp kd0
              have ax := AX.out
              have xr := HH.out.xr
              have rb : ∀ n, ∀ m ∈ List.replicate n (mz 444), Bs wr.drew m.v m.bs := fun n m hm => by obtain rfl := (List.mem_replicate.1 hm).2; exact Bs.nil _
              have y1r : (SV.mk a0 a1 a2 a3 a4 (.slice (some ⟨g1, 0, none⟩) i c1) (.slice (some ⟨g2, 0, none⟩) j c2) (List.replicate i (mz 444)) (List.replicate j (mz 444))).rd wr.drew := ⟨Id.m1.rdL (rb i) (by simp; omega), Id.m2.rdL (rb j) (by simp; omega), by have := xr.ra; rw [← ax.1] at this; exact this, by have := xr.rr; rw [← ax.2.1] at this; exact this, by have := xr.rl; rw [← ax.2.2.2.2] at this; exact this⟩
              have lB : σ6 P3.B = (0, 1) := Id.si.pl.lq P3.B (.inl (.inl rfl))
              have y1o : (SV.mk a0 a1 a2 a3 a4 (.slice (some ⟨g1, 0, none⟩) i c1) (.slice (some ⟨g2, 0, none⟩) j c2) (List.replicate i (mz 444)) (List.replicate j (mz 444))).off P3.B := ⟨fun e => by
                  have e2 : g1 = P3.B := by simpa [blk] using e
                  have := HI10.out.2.2.2.2.2.1; rw [e2, lB] at this; simp at this, fun e => by
                  have e2 : g2 = P3.B := by simpa [blk] using e
                  have := HI10.out.2.2.2.2.2.2.1; rw [e2, lB] at this; simp at this, fun y hy e => by
                  have : y = mz 444 := by
                    rcases List.mem_append.1 hy with hy | hy
                    · exact (List.mem_replicate.1 hy).2
                    · exact (List.mem_replicate.1 hy).2
                  rw [this] at e; simp [mz, blk] at e⟩
              have cC : ∀ wx : World, wx.heap[C]? = some (.cells #[.int .i64 a0, .int .i64 a1, .int .i64 a2, .int .i64 a3, .int .i64 a4, .slice ua i uc, .slice ub j ud] 64 (0, 0)) → wx.cell? ⟨C, 0, none⟩ = some (.int .i64 a0) ∧ wx.cell? ⟨C, 1, none⟩ = some (.int .i64 a1) ∧ wx.cell? ⟨C, 2, none⟩ = some (.int .i64 a2) ∧ wx.cell? ⟨C, 3, none⟩ = some (.int .i64 a3) ∧ wx.cell? ⟨C, 4, none⟩ = some (.int .i64 a4) ∧ wx.cell? ⟨C, 5, none⟩ = some (.slice ua i uc) ∧ wx.cell? ⟨C, 6, none⟩ = some (.slice ub j ud) := fun wx hb => ⟨(cells_at hb 0).1, (cells_at hb 1).1, (cells_at hb 2).1, (cells_at hb 3).1, (cells_at hb 4).1, (cells_at hb 5).1, (cells_at hb 6).1⟩
              have HCC : Hid (∀ wx : World, wx.heap[C]? = some (.cells #[.int .i64 a0, .int .i64 a1, .int .i64 a2, .int .i64 a3, .int .i64 a4, .slice ua i uc, .slice ub j ud] 64 (0, 0)) → wx.cell? ⟨C, 0, none⟩ = some (.int .i64 a0) ∧ wx.cell? ⟨C, 1, none⟩ = some (.int .i64 a1) ∧ wx.cell? ⟨C, 2, none⟩ = some (.int .i64 a2) ∧ wx.cell? ⟨C, 3, none⟩ = some (.int .i64 a3) ∧ wx.cell? ⟨C, 4, none⟩ = some (.int .i64 a4) ∧ wx.cell? ⟨C, 5, none⟩ = some (.slice ua i uc) ∧ wx.cell? ⟨C, 6, none⟩ = some (.slice ub j ud)) := cC
              have lC : ∀ k, w11.heap.size ≤ k → σ6 k = (0, 0) := Id.z
              have lts := Id.lt
              refine reg17_52 wr K T P3.B a0 a1 a2 a3 a4 (.slice (some ⟨g1, 0, none⟩) i c1) (.slice (some ⟨g2, 0, none⟩) j c2) ⟨Id.si.kc.1, TCC.out _ Id.bt⟩ (fun e3 wx => e3 = ldE P3.p.d (SV.mk a0 a1 a2 a3 a4 (.slice (some ⟨g1, 0, none⟩) i c1) (.slice (some ⟨g2, 0, none⟩) j c2) (List.replicate i (mz 444)) (List.replicate j (mz 444))) ∧ ∃ σ' P', SI W w σ K U A CS wx σ' b10 P' Q6 ∧ wx.heap[C]? = some (.cells #[.int .i64 a0, .int .i64 a1, .int .i64 a2, .int .i64 a3, .int .i64 a4, .slice ua i uc, .slice ub j ud] 64 (0, 0)) ∧ OM wx (.slice ua i uc) (List.replicate i (mz 444)) ∧ OM wx (.slice ub j ud) (List.replicate j (mz 444)) ∧ (ldB P3.p.d (SV.mk a0 a1 a2 a3 a4 (.slice (some ⟨g1, 0, none⟩) i c1) (.slice (some ⟨g2, 0, none⟩) j c2) (List.replicate i (mz 444)) (List.replicate j (mz 444))) = false ∧ P'.p = P3.p ∨ ldB P3.p.d (SV.mk a0 a1 a2 a3 a4 (.slice (some ⟨g1, 0, none⟩) i c1) (.slice (some ⟨g2, 0, none⟩) j c2) (List.replicate i (mz 444)) (List.replicate j (mz 444))) = true ∧ ∃ lq ls, P'.p = ⟨P3.p.d, a0, a1, a4, lq, ls⟩ ∧ Sm (List.replicate i (mz 444)) lq ∧ Sm (List.replicate j (mz 444)) ls)) ?_ _ (fun _ _ _ q _ h => by cases q <;> exact h) ?_
              · refine (Id.si.load (SV.mk a0 a1 a2 a3 a4 (.slice (some ⟨g1, 0, none⟩) i c1) (.slice (some ⟨g2, 0, none⟩) j c2) (List.replicate i (mz 444)) (List.replicate j (mz 444))) y1r y1o).mono ?_
                rintro e x1 ⟨rfl, σ', P', I4, hB, hx, hc, hcase⟩
                have nP : ¬ w11.heap.size ≤ P3.B := fun e => by have := lC P3.B e; rw [lB] at this; simp at this
                exact ⟨_, rfl, ⟨by have := I4.kc.1; rw [hB] at this; exact this, TCC.out _ (hc.heap Id.bt (fun e => by have := HI10.out.2.2.2.2.2.2.2.2; rw [e, lB] at this; simp at this))⟩, rfl, σ', P', I4, hc.heap Id.bc (fun e => by have := lts.2.2.2.2.1; omega), hc.owns Id.o1 (fun k hk e => by have := Id.e1 k hk; omega), hc.owns Id.o2 (fun k hk e => by have := Id.e2 k hk; omega), hcase⟩
              intro e3 w20 HX
              obtain ⟨he3, σ20, P20, I20, bC20, o20, p20, hcase20⟩ := HX
              have HL20 : Hid (SI W w σ K U A CS w20 σ20 b10 P20 Q6 ∧ w20.heap[C]? = some (.cells #[.int .i64 a0, .int .i64 a1, .int .i64 a2, .int .i64 a3, .int .i64 a4, .slice ua i uc, .slice ub j ud] 64 (0, 0)) ∧ OM w20 (.slice ua i uc) (List.replicate i (mz 444)) ∧ OM w20 (.slice ub j ud) (List.replicate j (mz 444)) ∧ (ldB P3.p.d (SV.mk a0 a1 a2 a3 a4 (.slice (some ⟨g1, 0, none⟩) i c1) (.slice (some ⟨g2, 0, none⟩) j c2) (List.replicate i (mz 444)) (List.replicate j (mz 444))) = false ∧ P20.p = P3.p ∨ ldB P3.p.d (SV.mk a0 a1 a2 a3 a4 (.slice (some ⟨g1, 0, none⟩) i c1) (.slice (some ⟨g2, 0, none⟩) j c2) (List.replicate i (mz 444)) (List.replicate j (mz 444))) = true ∧ ∃ lq ls, P20.p = ⟨P3.p.d, a0, a1, a4, lq, ls⟩ ∧ Sm (List.replicate i (mz 444)) lq ∧ Sm (List.replicate j (mz 444)) ls) ∧ e3 = ldE P3.p.d (SV.mk a0 a1 a2 a3 a4 (.slice (some ⟨g1, 0, none⟩) i c1) (.slice (some ⟨g2, 0, none⟩) j c2) (List.replicate i (mz 444)) (List.replicate j (mz 444)))) := ⟨I20, bC20, o20, p20, hcase20, he3⟩
              clear IJ kd0 Id ax xr rb y1r lB y1o cC lC lts he3 I20 bC20 o20 p20 hcase20 HJ
              go_upto_region 53 with fail
              obtain ⟨I20, bC20, o20, p20, hcase20, he3⟩ := HL20.out
              have kd0 := Kp.drew w20
              have I21 := I20.kp kd0
              have bC21 := kd0.heap bC20
              have ax := AX.out
              have xr := HH.out.xr
              have rb : ∀ n, ∀ m ∈ List.replicate n (mz 444), Bs w20.drew m.v m.bs := fun n m hm => by obtain rfl := (List.mem_replicate.1 hm).2; exact Bs.nil _
              have y2r : (SV.mk a0 a1 a2 a3 a4 (.slice ua i uc) (.slice ub j ud) (List.replicate i (mz 444)) (List.replicate j (mz 444))).rd w20.drew := ⟨OM.rdL (Chg.owns kd0 o20 (fun _ _ h => h)) (rb i) (by simp; omega), OM.rdL (Chg.owns kd0 p20 (fun _ _ h => h)) (rb j) (by simp; omega), by have := xr.ra; rw [← ax.1] at this; exact this, by have := xr.rr; rw [← ax.2.1] at this; exact this, by have := xr.rl; rw [← ax.2.2.2.2] at this; exact this⟩
              refine reg17_53 w20 K C Q6.B a0 a1 a2 a3 a4 (.slice ua i uc) (.slice ub j ud) ⟨I21.kc.2, HCC.out _ bC21⟩ (fun e4 wx => e4 = e3 ∧ StE W w σ K U P st g h o r l d wx) ?_ _ (fun _ _ _ q _ h => by cases q <;> exact h) ?_
              · refine (I21.rload (SV.mk a0 a1 a2 a3 a4 (.slice ua i uc) (.slice ub j ud) (List.replicate i (mz 444)) (List.replicate j (mz 444))) y2r).mono ?_
                rintro e x1 ⟨rfl, σ', Q', I22, hB, hx, hc, hcase⟩
                obtain ⟨_, _, _, _, qe6, d6⟩ := HL6.out
                have lF : σ20 Q6.B = (0, 2) := I21.pl.lf Q6.B (.inl (.inl rfl))
                obtain ⟨q1, q2, q3⟩ := qe_load (x := (SV.mk a0 a1 a2 a3 a4 (.slice (some ⟨g1, 0, none⟩) i c1) (.slice (some ⟨g2, 0, none⟩) j c2) (List.replicate i (mz 444)) (List.replicate j (mz 444)))) (y := (SV.mk a0 a1 a2 a3 a4 (.slice ua i uc) (.slice ub j ud) (List.replicate i (mz 444)) (List.replicate j (mz 444)))) qe6 rfl rfl rfl rfl rfl (Sm.refl _) (Sm.refl _) hcase20 hcase
                have nC : ¬ C = Q6.B := fun e => by
                  have hb := I21.pl.f.box
                  rw [← e, bC21] at hb
                  simp at hb
                have bC22 := hc.heap bC21 nC
                obtain ⟨_, s10, v10, _⟩ := HI10.out
                exact ⟨_, rfl, ⟨by have := I22.kc.2; rw [hB] at this; exact this, HCC.out _ bC22⟩, by rw [he3]; exact q2, σ', U, b10, P20, Q', I22.pl, q1, by rw [q3]; exact d6, fun _ _ => rfl, I22.sd, v10, s10.mono (by omega) (by omega) (by omega) (by omega) (by omega) (by omega)⟩
              intro e4 w22 HX
              obtain ⟨rfl, HX⟩ := HX
              have HF : Hid (StE W w σ K U P st g h o r l d w22) := HX
              clear HX I20 bC20 o20 p20 hcase20 he3 kd0 I21 bC21 ax xr rb y2r
              go_wp2_with fail
              go_ret
              exact ⟨rfl, HF.out⟩
    · have HF : Hid (StE W w σ K U P st g h o r l d w11) := by
        obtain ⟨I10, s10, v10, _⟩ := HI10.out
        obtain ⟨_, _, _, _, qe6, d6⟩ := HL6.out
        exact ⟨σ6, U, b10, P3,Q6, I10.pl, qe6, d6, fun _ _ => rfl, I10.sd, v10, s10.mono (by omega) (by omega) (by omega) (by omega) (by omega) (by omega)⟩
      go_wp2_with fail
      go_ret
      exact ⟨rfl, HF.out⟩
end Go.Proofs.Ytnblhaeojlpmmaa
