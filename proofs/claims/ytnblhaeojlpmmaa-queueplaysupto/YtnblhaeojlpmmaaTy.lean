import Derived.Test.YtnblhaeojlpmmaaTx
import Derived.Test.YtnblhaeojlpmmaaTq
import Derived.Test.YtnblhaeojlpmmaaTr
import Derived.Test.YtnblhaeojlpmmaaBd
namespace Go.Proofs.Ytnblhaeojlpmmaa
open Go.ChangeShapes Go.WideShapes Go.ChangeAt Go.RowKit
set_option linter.unusedVariables false
/-- A step's cells. -/
def scs (kd c tk : Int) (dv : Value) (x : SV) : Array Value := #[.int .i64 kd, .int .i64 c, .int .u64 tk, dv, .int .i64 x.ac, .int .i64 x.rc, .int .i64 x.q, .int .i64 x.t, .int .i64 x.lo, x.vq, x.vs]
/-- What a step leaves. -/
def StE (W w : World) (σ : Nat → Nat × Nat) (K : Nat) (U : Nat → Value) (P : PT) (st : Bool) (g h o r l d : Nat) (w' : World) : Prop := ∃ σ' U' b' P' Q', Pl W w' σ' K U' b' P' Q' ∧ QE P'.p Q'.p ∧ P'.p.d = P.p.d ∧ (∀ i, i ≠ 0 → U' i = U i) ∧ Sd w σ w' σ' ∧ b'.V 8 = .bool st ∧ Sz b' (g + 3000000) (h + 1) (o + 2) r (l + 2) d
/-- What a step begins with. -/
structure StB (W w : World) (σ : Nat → Nat × Nat) (K : Nat) (U : Nat → Value) (b : BS) (P Q : PT) (kd c tk : Int) (dv : Value) (bs : List Int) (x : SV) (st : Bool) (g h o r l d : Nat) : Prop where
  pl : Pl W w σ K U b P Q
  qe : QE P.p Q.p
  v8 : b.V 8 = .bool st
  sz : Sz b g h o r l d
  dvb : Bs W dv bs
  dc : ∃ a cp, dv = .slice a bs.length cp ∧ bs.length ≤ cp
  bl : bs.length ≤ 1048576
  xr : x.rd W
  xl : x.lq.length ≤ 1048576 ∧ x.ls.length ≤ 1048576
  xb : ∀ m ∈ x.lq ++ x.ls, m.bs.length ≤ 1048576
  kr : -9223372036854775808 ≤ kd ∧ kd ≤ 9223372036854775807
  hg : g + 3000000 < 1000000000
  hh : h + 100 < 999990
  ho : o + 200 < 999990
  hr : r + 10 < 1000000
  hl : l + 10 < 1000000
  hd : d + 10 < 1000000
  ud : U 2 = .int .i64 P.p.d.wr ∧ U 3 = .int .i64 P.p.d.rd ∧ U 4 = .int .i64 P.p.d.sz ∧ U 5 = .int .i64 P.p.d.de ∧ U 6 = .int .i64 P.p.d.qu ∧ U 7 = .bool P.p.d.fl
theorem scs_at {w : World} {A : Nat} {kd c tk : Int} {dv : Value} {x : SV} (h : w.heap[A]? = some (.cells (scs kd c tk dv x) 66 (0, 0))) : w.cell? ⟨A, 0, none⟩ = some (.int .i64 kd) ∧ w.cell? ⟨A, 1, none⟩ = some (.int .i64 c) ∧ w.cell? ⟨A, 2, none⟩ = some (.int .u64 tk) ∧ w.cell? ⟨A, 3, none⟩ = some dv :=
  ⟨(cells_at h 0).1, (cells_at h 1).1, (cells_at h 2).1, (cells_at h 3).1⟩
theorem Bs.take300 {w : World} {a : Option Addr} {n c : Nat} {bs : List Int} (h : Bs w (.slice a n c) bs) (hn : 300 < bs.length) : Bs w (.slice a 300 c) (bs.take 300) := by
  obtain ⟨a', c', e, hx⟩ := h.ex
  obtain ⟨rfl, _, rfl⟩ : a = a' ∧ n = bs.length ∧ c = c' := by simpa using e
  have hl : (bs.take 300).length = 300 := by simp; omega
  refine ⟨⟨a, c, by rw [hl], ?_⟩, by rw [hl]; omega⟩
  rcases hx with hx | ⟨y, o, ha, hc⟩
  · rw [hx] at hn; simp at hn
  · right
    refine ⟨y, o, ha, fun j hj => ?_⟩
    rw [hc j (by omega)]
    simp
set_option maxHeartbeats 8000000 in
set_option maxRecDepth 10000 in
theorem step_turn (W w : World) (σ : Nat → Nat × Nat) (K : Nat) (U : Nat → Value) (b : BS) (P Q : PT) (kd c tk : Int) (dv : Value) (bs : List Int) (x : SV) (st : Bool) (g h o r l d : Nat) (HB : StB W w σ K U b P Q kd c tk dv bs x st g h o r l d) (hk : pk kd 8 = 4) :
    Calls Try.prog 17 #[.pointer (some ⟨K, 0, none⟩), .agg (scs kd c tk dv x)] w fun e w' => e = .returned (.bool true) ∧ StE W w σ K U P st g h o r l d w' := by
  obtain ⟨va, vc, eva⟩ := HB.xr.hq.vshape
  obtain ⟨vb, vd, evb⟩ := HB.xr.hs.vshape
  obtain ⟨da, dc, eda, hdc⟩ := HB.dc
  have hbl := HB.bl
  have HH : Hid (StB W w σ K U b P Q kd c tk dv bs x st g h o r l d) := HB
  have EV : Hid (x.vq = .slice va x.lq.length vc ∧ x.vs = .slice vb x.ls.length vd ∧ dv = .slice da bs.length dc) := ⟨eva, evb, eda⟩
  have HI0 : Hid (∀ dv', SI W w σ K U w.heap.size (scs kd c tk dv' x) (w.alloc (.cells (scs kd c tk dv' x) 66)) σ b P Q) := fun dv' => by
    have k0 := Kp.al w (.cells (scs kd c tk dv' x) 66)
    have hb := heap_alloc_new w (.cells (scs kd c tk dv' x) 66)
    exact ⟨HB.pl.kp k0, Sd.kp k0, hb, HB.pl.bk.m.fz _ (Nat.le_refl _), Nat.le_refl _, HB.pl.kW.size⟩
  have HK : Hid (pk kd 8 = 4 ∧ -9223372036854775808 ≤ kd ∧ kd ≤ 9223372036854775807) := ⟨hk, HB.kr⟩
  unfold scs at HI0 ⊢
  rw [eva, evb] at HI0 ⊢
  rw [eda]
  obtain ⟨n, hn⟩ : ∃ n, n = bs.length := ⟨_, rfl⟩
  have HN : Hid (n = bs.length) := hn
  rw [← hn] at hdc hbl ⊢
  obtain ⟨n1, hn1⟩ : ∃ n, n = x.lq.length := ⟨_, rfl⟩
  obtain ⟨n2, hn2⟩ : ∃ n, n = x.ls.length := ⟨_, rfl⟩
  have NX : Hid (n1 = x.lq.length ∧ n2 = x.ls.length) := ⟨hn1, hn2⟩
  rw [← hn1, ← hn2] at HI0 ⊢
  obtain ⟨a0, h0⟩ : ∃ a, a = x.ac := ⟨_, rfl⟩
  obtain ⟨a1, h1⟩ : ∃ a, a = x.rc := ⟨_, rfl⟩
  obtain ⟨a2, h2⟩ : ∃ a, a = x.q := ⟨_, rfl⟩
  obtain ⟨a3, h3⟩ : ∃ a, a = x.t := ⟨_, rfl⟩
  obtain ⟨a4, h4⟩ : ∃ a, a = x.lo := ⟨_, rfl⟩
  have AX : Hid (a0 = x.ac ∧ a1 = x.rc ∧ a2 = x.q ∧ a3 = x.t ∧ a4 = x.lo) := ⟨h0, h1, h2, h3, h4⟩
  rw [← h0, ← h1, ← h2, ← h3, ← h4] at HI0 ⊢
  clear HB eva evb eda hk hn hn1 hn2 h0 h1 h2 h3 h4
  go_enter Try.func17, Try.ntmps17
  go_upto_if 37 with fail
  go_cut [4] from 38 to 41 (fun s4 wx => s4 = .bool false ∧ Hid (∃ (dv' : Value) (bs' : List Int), Bs W dv' bs' ∧ bs'.length ≤ 300 ∧ SI W w σ K U w.heap.size #[.int .i64 kd, .int .i64 c, .int .u64 tk, dv', .int .i64 a0, .int .i64 a1, .int .i64 a2, .int .i64 a3, .int .i64 a4, .slice va n1 vc, .slice vb n2 vd] wx σ b P Q))
  case first =>
    as_aux_lemma =>
      by_cases hlen : 300 < n
      · have hz : (300 : Int) < (n : Nat) := by omega
        have hz2 : (300 : Int) ≤ (dc : Nat) := by omega
        go_wp2_with fail
        go_meet
        refine ⟨rfl, ⟨_, _, Bs.take300 (n := n) (c := dc) (a := da) (bs := bs) (by have := HH.out.dvb; rw [EV.out.2.2, ← HN.out] at this; exact this) (by rw [← HN.out]; exact hlen), by simp; omega, HI0.out _⟩⟩
      · have hz : ¬ (300 : Int) < (n : Nat) := by omega
        go_wp2_with fail
        go_meet
        refine ⟨rfl, ⟨_, _, by have := HH.out.dvb; rw [EV.out.2.2, ← HN.out] at this; exact this, by rw [← HN.out]; omega, HI0.out _⟩⟩
  case rest =>
    obtain ⟨rfl, HC⟩ := hcut
    obtain ⟨dv', bs', hdv', hbl', HI⟩ := HC.out
    obtain ⟨A, hA⟩ : ∃ A, w.heap.size = A := ⟨_, rfl⟩
    rw [hA] at HI ⊢
    have HS : Hid (SI W w σ K U A #[.int .i64 kd, .int .i64 c, .int .u64 tk, dv', .int .i64 a0, .int .i64 a1, .int .i64 a2, .int .i64 a3, .int .i64 a4, .slice va n1 vc, .slice vb n2 vd] wc σ b P Q ∧ Bs W dv' bs') := ⟨HI, hdv'⟩
    have z0 : wc.cell? ⟨A, 0, none⟩ = some (.int .i64 kd) := (cells_at HI.bx 0).1
    have tp := pick_any wc kd 8 (by omega) HK.out.2
    rw [HK.out.1] at tp
    clear HC HI HI0 hdc hbl hdv' hA
    generalize hCS : (#[.int .i64 kd, .int .i64 c, .int .u64 tk, dv', .int .i64 a0, .int .i64 a1, .int .i64 a2, .int .i64 a3, .int .i64 a4, .slice va n1 vc, .slice vb n2 vd] : Array Value) = CS at HS
    have HCS : Hid ((#[.int .i64 kd, .int .i64 c, .int .u64 tk, dv', .int .i64 a0, .int .i64 a1, .int .i64 a2, .int .i64 a3, .int .i64 a4, .slice va n1 vc, .slice vb n2 vd] : Array Value) = CS) := hCS
    clear hCS
    have AC : Hid (∀ (wx : World), wx.heap[A]? = some (.cells CS 66 (0, 0)) → wx.cell? ⟨A, 0, none⟩ = some (.int .i64 kd) ∧ wx.cell? ⟨A, 1, none⟩ = some (.int .i64 c) ∧ wx.cell? ⟨A, 2, none⟩ = some (.int .u64 tk) ∧ wx.cell? ⟨A, 3, none⟩ = some dv') := fun wx hb => by
      rw [← HCS.out] at hb
      exact ⟨(cells_at hb 0).1, (cells_at hb 1).1, (cells_at hb 2).1, (cells_at hb 3).1⟩
    go_wp2_with fail
    go_at_call 11
    refine tp.mono ?_
    rintro e wp ⟨rfl, rfl⟩
    clear tp
    go_upto_region 26 with fail
    obtain ⟨I0, _⟩ := HS.out
    have kd0 := Kp.drew wp
    have I1 := I0.kp kd0
    have ac := AC.out _ I1.bx
    refine reg17_26 wp K A P.B c ⟨I1.kc.1, ac.2.1⟩ (fun m wx => m = (P.p.tN c : Nat) ∧ ∃ σ' P', SI W w σ K U A CS wx σ' b P' Q ∧ P'.p = P.p.turn c ∧ P'.B = P.B) ?_ _ (fun _ _ _ q _ h => by cases q <;> exact h) ?_
    · refine (I1.turn c).mono ?_
      rintro e x1 ⟨rfl, σ', P', I2, hp, hB⟩
      exact ⟨_, rfl, ⟨by have := I2.kc.1; rw [hB] at this; exact this, (AC.out _ I2.bx).2.1⟩, rfl, σ', P', I2, hp, hB⟩
    intro m w2 HX
    obtain ⟨rfl, σ', P', I2, hp, hB⟩ := HX
    have HI2 : Hid (SI W w σ K U A CS w2 σ' b P' Q ∧ P'.p = P.p.turn c ∧ P'.B = P.B) := ⟨I2, hp, hB⟩
    clear I0 kd0 I1 ac I2 hp hB z0
    go_upto_region 27 with fail
    obtain ⟨I2, hp, hB⟩ := HI2.out
    have kd0 := Kp.drew w2
    have I3 := I2.kp kd0
    refine reg17_27 w2 K A Q.B c (P.p.tN c : Nat) ⟨I3.kc.2, (AC.out _ I3.bx).2.1⟩ (fun wx => StE W w σ K U P st g h o r l d wx) ?_ _ (fun _ _ _ q _ h => by cases q <;> exact h) ?_
    · refine (I3.rturn c).mono ?_
      rintro e x1 ⟨rfl, σ4, Q', I4, hq, hQ⟩
      refine ⟨by rw [HH.out.qe.tN c], ⟨by have := I4.kc.2; rw [hQ] at this; exact this, (AC.out _ I4.bx).2.1⟩, σ4, U, b, P', Q', I4.pl, by rw [hp, hq]; exact HH.out.qe.turn c, ?_, fun _ _ => rfl, I4.sd, HH.out.v8, HH.out.sz.mono (by omega) (by omega) (by omega) (by omega) (by omega) (by omega)⟩
      rw [hp]; unfold QS.turn QS.joined; split <;> rfl
    intro w4 HX
    have HF : Hid (StE W w σ K U P st g h o r l d w4) := HX
    clear HX I2 hp hB kd0 I3
    go_wp2_with fail
    go_ret
    exact ⟨rfl, HF.out⟩
set_option maxHeartbeats 8000000 in
set_option maxRecDepth 10000 in
theorem step_stat (W w : World) (σ : Nat → Nat × Nat) (K : Nat) (U : Nat → Value) (b : BS) (P Q : PT) (kd c tk : Int) (dv : Value) (bs : List Int) (x : SV) (st : Bool) (g h o r l d : Nat) (HB : StB W w σ K U b P Q kd c tk dv bs x st g h o r l d) (hk : pk kd 8 = 5) :
    Calls Try.prog 17 #[.pointer (some ⟨K, 0, none⟩), .agg (scs kd c tk dv x)] w fun e w' => e = .returned (.bool true) ∧ StE W w σ K U P st g h o r l d w' := by
  obtain ⟨va, vc, eva⟩ := HB.xr.hq.vshape
  obtain ⟨vb, vd, evb⟩ := HB.xr.hs.vshape
  obtain ⟨da, dc, eda, hdc⟩ := HB.dc
  have hbl := HB.bl
  have HH : Hid (StB W w σ K U b P Q kd c tk dv bs x st g h o r l d) := HB
  have EV : Hid (x.vq = .slice va x.lq.length vc ∧ x.vs = .slice vb x.ls.length vd ∧ dv = .slice da bs.length dc) := ⟨eva, evb, eda⟩
  have HI0 : Hid (∀ dv', SI W w σ K U w.heap.size (scs kd c tk dv' x) (w.alloc (.cells (scs kd c tk dv' x) 66)) σ b P Q) := fun dv' => by
    have k0 := Kp.al w (.cells (scs kd c tk dv' x) 66)
    have hb := heap_alloc_new w (.cells (scs kd c tk dv' x) 66)
    exact ⟨HB.pl.kp k0, Sd.kp k0, hb, HB.pl.bk.m.fz _ (Nat.le_refl _), Nat.le_refl _, HB.pl.kW.size⟩
  have HK : Hid (pk kd 8 = 5 ∧ -9223372036854775808 ≤ kd ∧ kd ≤ 9223372036854775807) := ⟨hk, HB.kr⟩
  unfold scs at HI0 ⊢
  rw [eva, evb] at HI0 ⊢
  rw [eda]
  obtain ⟨n, hn⟩ : ∃ n, n = bs.length := ⟨_, rfl⟩
  have HN : Hid (n = bs.length) := hn
  rw [← hn] at hdc hbl ⊢
  obtain ⟨n1, hn1⟩ : ∃ n, n = x.lq.length := ⟨_, rfl⟩
  obtain ⟨n2, hn2⟩ : ∃ n, n = x.ls.length := ⟨_, rfl⟩
  have NX : Hid (n1 = x.lq.length ∧ n2 = x.ls.length) := ⟨hn1, hn2⟩
  rw [← hn1, ← hn2] at HI0 ⊢
  obtain ⟨a0, h0⟩ : ∃ a, a = x.ac := ⟨_, rfl⟩
  obtain ⟨a1, h1⟩ : ∃ a, a = x.rc := ⟨_, rfl⟩
  obtain ⟨a2, h2⟩ : ∃ a, a = x.q := ⟨_, rfl⟩
  obtain ⟨a3, h3⟩ : ∃ a, a = x.t := ⟨_, rfl⟩
  obtain ⟨a4, h4⟩ : ∃ a, a = x.lo := ⟨_, rfl⟩
  have AX : Hid (a0 = x.ac ∧ a1 = x.rc ∧ a2 = x.q ∧ a3 = x.t ∧ a4 = x.lo) := ⟨h0, h1, h2, h3, h4⟩
  rw [← h0, ← h1, ← h2, ← h3, ← h4] at HI0 ⊢
  clear HB eva evb eda hk hn hn1 hn2 h0 h1 h2 h3 h4
  go_enter Try.func17, Try.ntmps17
  go_upto_if 37 with fail
  go_cut [4] from 38 to 41 (fun s4 wx => s4 = .bool false ∧ Hid (∃ (dv' : Value) (bs' : List Int), Bs W dv' bs' ∧ bs'.length ≤ 300 ∧ SI W w σ K U w.heap.size #[.int .i64 kd, .int .i64 c, .int .u64 tk, dv', .int .i64 a0, .int .i64 a1, .int .i64 a2, .int .i64 a3, .int .i64 a4, .slice va n1 vc, .slice vb n2 vd] wx σ b P Q))
  case first =>
    as_aux_lemma =>
      by_cases hlen : 300 < n
      · have hz : (300 : Int) < (n : Nat) := by omega
        have hz2 : (300 : Int) ≤ (dc : Nat) := by omega
        go_wp2_with fail
        go_meet
        refine ⟨rfl, ⟨_, _, Bs.take300 (n := n) (c := dc) (a := da) (bs := bs) (by have := HH.out.dvb; rw [EV.out.2.2, ← HN.out] at this; exact this) (by rw [← HN.out]; exact hlen), by simp; omega, HI0.out _⟩⟩
      · have hz : ¬ (300 : Int) < (n : Nat) := by omega
        go_wp2_with fail
        go_meet
        refine ⟨rfl, ⟨_, _, by have := HH.out.dvb; rw [EV.out.2.2, ← HN.out] at this; exact this, by rw [← HN.out]; omega, HI0.out _⟩⟩
  case rest =>
    obtain ⟨rfl, HC⟩ := hcut
    obtain ⟨dv', bs', hdv', hbl', HI⟩ := HC.out
    obtain ⟨A, hA⟩ : ∃ A, w.heap.size = A := ⟨_, rfl⟩
    rw [hA] at HI ⊢
    have HS : Hid (SI W w σ K U A #[.int .i64 kd, .int .i64 c, .int .u64 tk, dv', .int .i64 a0, .int .i64 a1, .int .i64 a2, .int .i64 a3, .int .i64 a4, .slice va n1 vc, .slice vb n2 vd] wc σ b P Q ∧ Bs W dv' bs') := ⟨HI, hdv'⟩
    have z0 : wc.cell? ⟨A, 0, none⟩ = some (.int .i64 kd) := (cells_at HI.bx 0).1
    have tp := pick_any wc kd 8 (by omega) HK.out.2
    rw [HK.out.1] at tp
    clear HC HI HI0 hdc hbl hdv' hA
    generalize hCS : (#[.int .i64 kd, .int .i64 c, .int .u64 tk, dv', .int .i64 a0, .int .i64 a1, .int .i64 a2, .int .i64 a3, .int .i64 a4, .slice va n1 vc, .slice vb n2 vd] : Array Value) = CS at HS
    have HCS : Hid ((#[.int .i64 kd, .int .i64 c, .int .u64 tk, dv', .int .i64 a0, .int .i64 a1, .int .i64 a2, .int .i64 a3, .int .i64 a4, .slice va n1 vc, .slice vb n2 vd] : Array Value) = CS) := hCS
    clear hCS
    have AC : Hid (∀ (wx : World), wx.heap[A]? = some (.cells CS 66 (0, 0)) → wx.cell? ⟨A, 0, none⟩ = some (.int .i64 kd) ∧ wx.cell? ⟨A, 1, none⟩ = some (.int .i64 c) ∧ wx.cell? ⟨A, 2, none⟩ = some (.int .u64 tk) ∧ wx.cell? ⟨A, 3, none⟩ = some dv') := fun wx hb => by
      rw [← HCS.out] at hb
      exact ⟨(cells_at hb 0).1, (cells_at hb 1).1, (cells_at hb 2).1, (cells_at hb 3).1⟩
    go_wp2_with fail
    go_at_call 11
    refine tp.mono ?_
    rintro e wp ⟨rfl, rfl⟩
    clear tp
    go_upto_region 29 with fail
    obtain ⟨I0, _⟩ := HS.out
    have kd0 := Kp.drew wp
    have I1 := I0.kp kd0
    have bf := I1.pl.f.box
    have qe := HH.out.qe
    have f6 : wp.drew.cell? ⟨Q.B, 6, none⟩ = some (.int .i64 P.p.ac) := by rw [(cells_at bf 6).1, ← qe.ac]; rfl
    have f7 : wp.drew.cell? ⟨Q.B, 7, none⟩ = some (.int .i64 P.p.rc) := by rw [(cells_at bf 7).1, ← qe.rc]; rfl
    have f8 : wp.drew.cell? ⟨Q.B, 8, none⟩ = some (.int .i64 (P.p.qd.length : Nat)) := by rw [(cells_at bf 8).1, ← qe.q.len]; rfl
    have f9 : wp.drew.cell? ⟨Q.B, 9, none⟩ = some (.int .i64 (P.p.st.length : Nat)) := by rw [(cells_at bf 9).1, ← qe.t.len]; rfl
    have f10 : wp.drew.cell? ⟨Q.B, 10, none⟩ = some (.int .i64 P.p.lo) := by rw [(cells_at bf 10).1, ← qe.lo]; rfl
    refine reg17_29 wp K P.B Q.B P.p.ac P.p.rc (P.p.qd.length : Nat) (P.p.st.length : Nat) P.p.lo ⟨I1.kc.1, I1.kc.2, f6, f7, f8, f9, f10⟩ (fun wx => StE W w σ K U P st g h o r l d wx) ?_ _ (fun _ _ _ q _ h => by cases q <;> exact h) ?_
    · refine (stat_any _ P.B P.vq P.vs P.p I1.pl.q).mono ?_
      rintro e x1 ⟨rfl, k1⟩
      have I2 := I1.kp k1
      exact ⟨rfl, ⟨I2.kc.1, I2.kc.2, k1.cell f6, k1.cell f7, k1.cell f8, k1.cell f9, k1.cell f10⟩, σ, U, b, P, Q, I2.pl, qe, rfl, fun _ _ => rfl, I2.sd, HH.out.v8, HH.out.sz.mono (by omega) (by omega) (by omega) (by omega) (by omega) (by omega)⟩
    intro w4 HX
    have HF : Hid (StE W w σ K U P st g h o r l d w4) := HX
    clear HX I0 kd0 I1 bf qe f6 f7 f8 f9 f10
    go_wp2_with fail
    go_ret
    exact ⟨rfl, HF.out⟩
end Go.Proofs.Ytnblhaeojlpmmaa
