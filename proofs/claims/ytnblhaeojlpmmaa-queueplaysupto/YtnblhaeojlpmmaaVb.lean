import Derived.Test.YtnblhaeojlpmmaaVe
namespace Go.Proofs.Ytnblhaeojlpmmaa
open Go.ChangeShapes Go.WideShapes Go.ChangeAt Go.RowKit
set_option linter.unusedVariables false
set_option maxHeartbeats 8000000 in
set_option maxRecDepth 10000 in
theorem step_reload (W w : World) (σ : Nat → Nat × Nat) (K : Nat) (U : Nat → Value) (b : BS) (P Q : PT) (kd c tk : Int) (dv : Value) (bs : List Int) (x : SV) (st : Bool) (g h o r l d : Nat) (HB : StB W w σ K U b P Q kd c tk dv bs x st g h o r l d) (hk : pk kd 8 = 6) :
    Calls Try.prog 17 #[.pointer (some ⟨K, 0, none⟩), .agg (scs kd c tk dv x)] w fun e w' => e = .returned (.bool true) ∧ StE W w σ K U P st g h o r l d w' := by
  obtain ⟨va, vc, eva⟩ := HB.xr.hq.vshape
  obtain ⟨vb, vd, evb⟩ := HB.xr.hs.vshape
  obtain ⟨da, dc, eda, hdc⟩ := HB.dc
  have hbl := HB.bl
  have HH : Hid (StB W w σ K U b P Q kd c tk dv bs x st g h o r l d) := HB
  have EV : Hid (x.vq = .slice va x.lq.length vc ∧ x.vs = .slice vb x.ls.length vd ∧ dv = .slice da bs.length dc) := ⟨eva, evb, eda⟩
  have HI0 : Hid (∀ dv', SI W w σ K U w.heap.size (scs kd c tk dv' x) (w.alloc (.cells (scs kd c tk dv' x) 66)) σ b P Q) := fun dv' => by
    have k0 := Kp.al w (.cells (scs kd c tk dv' x) 66)
    have hb := heap_alloc_new w (.cells (scs kd c tk dv' x) 66)
    exact ⟨HB.pl.kp k0, Sd.kp k0, hb, HB.pl.bk.m.fz _ (Nat.le_refl _), Nat.le_refl _, HB.pl.kW.size⟩
  have HK : Hid (pk kd 8 = 6 ∧ -9223372036854775808 ≤ kd ∧ kd ≤ 9223372036854775807) := ⟨hk, HB.kr⟩
  unfold scs at HI0 ⊢
  rw [eva, evb] at HI0 ⊢
  rw [eda]
  obtain ⟨n, hn⟩ : ∃ n, n = bs.length := ⟨_, rfl⟩
  have HN : Hid (n = bs.length) := hn
  rw [← hn] at hdc hbl ⊢
  obtain ⟨n1, hn1⟩ : ∃ n, n = x.lq.length := ⟨_, rfl⟩
  obtain ⟨n2, hn2⟩ : ∃ n, n = x.ls.length := ⟨_, rfl⟩
  have NX : Hid (n1 = x.lq.length ∧ n2 = x.ls.length) := ⟨hn1, hn2⟩
  rw [← hn1, ← hn2] at HI0 ⊢
  obtain ⟨a0, h0⟩ : ∃ a, a = x.ac := ⟨_, rfl⟩
  obtain ⟨a1, h1⟩ : ∃ a, a = x.rc := ⟨_, rfl⟩
  obtain ⟨a2, h2⟩ : ∃ a, a = x.q := ⟨_, rfl⟩
  obtain ⟨a3, h3⟩ : ∃ a, a = x.t := ⟨_, rfl⟩
  obtain ⟨a4, h4⟩ : ∃ a, a = x.lo := ⟨_, rfl⟩
  have AX : Hid (a0 = x.ac ∧ a1 = x.rc ∧ a2 = x.q ∧ a3 = x.t ∧ a4 = x.lo) := ⟨h0, h1, h2, h3, h4⟩
  rw [← h0, ← h1, ← h2, ← h3, ← h4] at HI0 ⊢
  clear HB eva evb eda hk hn hn1 hn2 h0 h1 h2 h3 h4
  go_enter Try.func17, Try.ntmps17
  go_upto_if 37 with fail
  go_cut [4] from 38 to 41 (fun s4 wx => s4 = .bool false ∧ Hid (∃ (dv' : Value) (bs' : List Int), Bs W dv' bs' ∧ bs'.length ≤ 300 ∧ SI W w σ K U w.heap.size #[.int .i64 kd, .int .i64 c, .int .u64 tk, dv', .int .i64 a0, .int .i64 a1, .int .i64 a2, .int .i64 a3, .int .i64 a4, .slice va n1 vc, .slice vb n2 vd] wx σ b P Q))
  case first =>
    as_aux_lemma =>
      by_cases hlen : 300 < n
      · have hz : (300 : Int) < (n : Nat) := by omega
        have hz2 : (300 : Int) ≤ (dc : Nat) := by omega
        go_wp2_with fail
        go_meet
        refine ⟨rfl, ⟨_, _, Bs.take300 (n := n) (c := dc) (a := da) (bs := bs) (by have := HH.out.dvb; rw [EV.out.2.2, ← HN.out] at this; exact this) (by rw [← HN.out]; exact hlen), by simp; omega, HI0.out _⟩⟩
      · have hz : ¬ (300 : Int) < (n : Nat) := by omega
        go_wp2_with fail
        go_meet
        refine ⟨rfl, ⟨_, _, by have := HH.out.dvb; rw [EV.out.2.2, ← HN.out] at this; exact this, by rw [← HN.out]; omega, HI0.out _⟩⟩
  case rest =>
    obtain ⟨rfl, HC⟩ := hcut
    obtain ⟨dv', bs', hdv', hbl', HI⟩ := HC.out
    obtain ⟨A, hA⟩ : ∃ A, w.heap.size = A := ⟨_, rfl⟩
    rw [hA] at HI ⊢
    have HS : Hid (SI W w σ K U A #[.int .i64 kd, .int .i64 c, .int .u64 tk, dv', .int .i64 a0, .int .i64 a1, .int .i64 a2, .int .i64 a3, .int .i64 a4, .slice va n1 vc, .slice vb n2 vd] wc σ b P Q ∧ Bs W dv' bs') := ⟨HI, hdv'⟩
    have z0 : wc.cell? ⟨A, 0, none⟩ = some (.int .i64 kd) := (cells_at HI.bx 0).1
    have tp := pick_any wc kd 8 (by omega) HK.out.2
    rw [HK.out.1] at tp
    clear HC HI HI0 hdc hbl hdv' hA
    generalize hCS : (#[.int .i64 kd, .int .i64 c, .int .u64 tk, dv', .int .i64 a0, .int .i64 a1, .int .i64 a2, .int .i64 a3, .int .i64 a4, .slice va n1 vc, .slice vb n2 vd] : Array Value) = CS at HS
    have HCS : Hid ((#[.int .i64 kd, .int .i64 c, .int .u64 tk, dv', .int .i64 a0, .int .i64 a1, .int .i64 a2, .int .i64 a3, .int .i64 a4, .slice va n1 vc, .slice vb n2 vd] : Array Value) = CS) := hCS
    clear hCS
    have AC : Hid (∀ (wx : World), wx.heap[A]? = some (.cells CS 66 (0, 0)) → wx.cell? ⟨A, 0, none⟩ = some (.int .i64 kd) ∧ wx.cell? ⟨A, 1, none⟩ = some (.int .i64 c) ∧ wx.cell? ⟨A, 2, none⟩ = some (.int .u64 tk) ∧ wx.cell? ⟨A, 3, none⟩ = some dv') := fun wx hb => by
      rw [← HCS.out] at hb
      exact ⟨(cells_at hb 0).1, (cells_at hb 1).1, (cells_at hb 2).1, (cells_at hb 3).1⟩
    go_wp2_with fail
    go_at_call 11
    refine tp.mono ?_
    rintro e wp ⟨rfl, rfl⟩
    clear tp
    obtain ⟨I0, _⟩ := HS.out
    have ud := HH.out.ud
    have bk0 := I0.pl.bk.m.box
    have u2 : wp.cell? ⟨K, 2, none⟩ = some (.int .i64 P.p.d.wr) := by rw [(cells_at bk0 2).1, ← ud.1]; rfl
    have u3 : wp.cell? ⟨K, 3, none⟩ = some (.int .i64 P.p.d.rd) := by rw [(cells_at bk0 3).1, ← ud.2.1]; rfl
    have u4 : wp.cell? ⟨K, 4, none⟩ = some (.int .i64 P.p.d.sz) := by rw [(cells_at bk0 4).1, ← ud.2.2.1]; rfl
    have u5 : wp.cell? ⟨K, 5, none⟩ = some (.int .i64 P.p.d.de) := by rw [(cells_at bk0 5).1, ← ud.2.2.2.1]; rfl
    have u6 : wp.cell? ⟨K, 6, none⟩ = some (.int .i64 P.p.d.qu) := by rw [(cells_at bk0 6).1, ← ud.2.2.2.2.1]; rfl
    have u7 : wp.cell? ⟨K, 7, none⟩ = some (.bool P.p.d.fl) := by rw [(cells_at bk0 7).1, ← ud.2.2.2.2.2]; rfl
    have t8 := new_any wp P.p.d.wr P.p.d.rd P.p.d.sz P.p.d.de P.p.d.qu P.p.d.fl
    have hmay : QD.may ⟨P.p.d.wr, P.p.d.rd, P.p.d.sz, P.p.d.de, P.p.d.qu, P.p.d.fl⟩ = true := I0.pl.q.ok.d
    have HI0 : Hid (SI W w σ K U A CS wp σ b P Q) := I0
    clear I0 ud bk0
    generalize hd0 : P.p.d.wr = d0 at *
    generalize hd1 : P.p.d.rd = d1 at *
    generalize hd2 : P.p.d.sz = d2 at *
    generalize hd3 : P.p.d.de = d3 at *
    generalize hd4 : P.p.d.qu = d4 at *
    generalize hd5 : P.p.d.fl = d5 at *
    have HD : Hid (P.p.d = ⟨d0, d1, d2, d3, d4, d5⟩) := by rw [← hd0, ← hd1, ← hd2, ← hd3, ← hd4, ← hd5]; rfl
    clear hd0 hd1 hd2 hd3 hd4 hd5
    go_wp2_with fail
    go_at_call 8
    refine t8.mono ?_
    rintro e w2 ⟨k2, ⟨hm, _⟩ | ⟨_, B, rfl, hB, hQ⟩⟩
    · rw [hm] at hmay; cases hmay
    have I2 := HI0.out.kp k2
    have x0 := I2.kc.1
    have t34 := state_any w2 P.B P.vq P.vs P.p I2.pl.q
    have HQ : Hid (IsQ w2 B (.slice none 0 0) (.slice none 0 0) (QS.mt ⟨d0, d1, d2, d3, d4, d5⟩) ∧ wp.heap.size ≤ B ∧ Kp wp w2) := ⟨hQ, hB, k2⟩
    clear t8 hmay u2 u3 u4 u5 u6 u7 I2 hQ hB k2 z0
    go_wp2_with fail
    go_at_call 34
    refine t34.mono ?_
    rintro e w3 ⟨v1, v2, lq, ls, rfl, T3⟩
    obtain ⟨hQ, hB, k2⟩ := HQ.out
    have ok0 := HI0.out.pl.q.ok
    have xr : (SV.mk P.p.ac P.p.rc (P.p.qd.length : Nat) (P.p.st.length : Nat) P.p.lo v1 v2 lq ls).rd w3 := by
      have hql : lq.length = P.p.qd.length := T3.sq.len
      have hsl : ls.length = P.p.st.length := T3.ss.len
      have hln := HI0.out.pl.q.len
      have hbl : ∀ m ∈ lq ++ ls, m.bs.length ≤ 1000 := fun m hm => by
        have hsm : Sm (P.p.qd ++ P.p.st) (lq ++ ls) := Sm.app T3.sq T3.ss
        have : (m.bs, m.tk) ∈ (P.p.qd ++ P.p.st).map (fun m => (m.bs, m.tk)) := by rw [← hsm]; exact List.mem_map.2 ⟨m, hm, rfl⟩
        obtain ⟨m', hm', e⟩ := List.mem_map.1 this
        have h1 := (ok0.m m' hm').1
        have h2 := may_ok ok0.d
        rw [← (Prod.mk.inj e).1]; omega
      have ha := ok0.a
      have hr := ok0.r
      have hl := ok0.l
      have he := ok0.e
      exact ⟨T3.q.rd (T3.b.sub (fun m hm => List.mem_append_left _ hm)) (by omega) (fun m hm => hbl m (List.mem_append_left _ hm)), T3.t.rd (T3.b.sub (fun m hm => List.mem_append_right _ hm)) (by omega) (fun m hm => hbl m (List.mem_append_right _ hm)), ⟨by show _ ≤ P.p.ac; omega, by show P.p.ac ≤ _; omega⟩, ⟨by show _ ≤ P.p.rc; omega, by show P.p.rc ≤ _; omega⟩, ⟨by show _ ≤ P.p.lo; omega, by show P.p.lo ≤ _; omega⟩⟩
    have ld : ldB (QS.mt ⟨d0, d1, d2, d3, d4, d5⟩).d (SV.mk P.p.ac P.p.rc (P.p.qd.length : Nat) (P.p.st.length : Nat) P.p.lo v1 v2 lq ls) = true := by
      have := ld_own ok0 T3.sq T3.ss v1 v2
      rw [HD.out] at this
      exact this
    have hQ3 := hQ.kp T3.k
    have nB : ∀ (z : Value) (ll : List Mg), OM w3 z ll → blk z ≠ some B := fun z ll hz e => by
      have e2 : z.ownBlock = some B := by
        rcases hz.at with ⟨rfl, _⟩ | ⟨g', cap, cur, rfl, _⟩
        · simp [blk] at e
        · simpa [blk, Value.ownBlock] using e
      exact hz.no hQ3.box (by decide) e2
    have off : (SV.mk P.p.ac P.p.rc (P.p.qd.length : Nat) (P.p.st.length : Nat) P.p.lo v1 v2 lq ls).off B := ⟨nB _ _ T3.q, nB _ _ T3.t, fun m hm e => by
      have hob := T3.b m hm
      rw [hob.blk] at e
      exact hob.no hQ3.box (by decide) e⟩
    have t33 := load_ok w3 B _ _ _ hQ3 (SV.mk P.p.ac P.p.rc (P.p.qd.length : Nat) (P.p.st.length : Nat) P.p.lo v1 v2 lq ls) xr ld off
    have HT : Hid (Sm P.p.qd lq ∧ Sm P.p.st ls ∧ Kp w2 w3) := ⟨T3.sq, T3.ss, T3.k⟩
    clear t34 T3 ok0 xr ld hQ3 nB off hQ hB k2
    go_wp2_with fail
    go_at_call 33
    refine t33.mono ?_
    rintro e w4 ⟨rfl, vq', vs', lq', ls', hI4, s1, s2, c4, n1, n2, n3⟩
    obtain ⟨hQ, hB, k2⟩ := HQ.out
    obtain ⟨m1, m2, k3⟩ := HT.out
    have k4 : Kp wp w4 := Chg.trans (k2.trans k3) c4 (fun i hi e => by omega)
    have sz3 := (k2.trans k3).size
    obtain ⟨pl5, sd5⟩ := HI0.out.pl.anew k4 hI4 (fun k hk => by
      rcases hk with (e | e | e) | e
      · rw [e]; exact hB
      · have := n1 k e; omega
      · have := n2 k e; omega
      · have := n3 k e; omega)
    have K4 := (HI0.out.pl.bk.kp k4).m.box
    have kc4 : w4.cell? ⟨K, 0, none⟩ = some (U 0) := (cells_at K4 0).1
    have kf4 : w4.frozen? ⟨K, 0, none⟩ = false := (cells_at K4 0).2
    have HF : Hid (StE W w σ K U P st g h o r l d (w4.setCell ⟨K, 0, none⟩ (.pointer (some ⟨B, 0, none⟩)))) := by
      have qe := HH.out.qe
      refine ⟨_, _, b, _, Q, pl5, ?_, ?_, fun i hi => upd_other _ _ hi, HI0.out.sd.trans sd5, HH.out.v8, HH.out.sz.mono (by omega) (by omega) (by omega) (by omega) (by omega) (by omega)⟩
      · exact ⟨by rw [qe.d, HD.out]; rfl, qe.ac, qe.rc, qe.lo, (m1.trans s1).symm.trans qe.q, (m2.trans s2).symm.trans qe.t⟩
      · rw [HD.out]; rfl
    clear t33 hI4 s1 s2 c4 n1 n2 n3 hQ hB k2 m1 m2 k3 k4 sz3 pl5 sd5 K4 HQ HT
    go_wp2_with fail
    go_ret
    exact ⟨rfl, HF.out⟩
end Go.Proofs.Ytnblhaeojlpmmaa
