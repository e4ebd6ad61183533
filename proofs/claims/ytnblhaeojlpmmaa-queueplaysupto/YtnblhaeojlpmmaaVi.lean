import Derived.Test.YtnblhaeojlpmmaaVh
import Derived.Test.YtnblhaeojlpmmaaBa
namespace Go.Proofs.Ytnblhaeojlpmmaa
open Go.ChangeShapes Go.WideShapes Go.ChangeAt Go.RowKit
set_option linter.unusedVariables false
set_option maxHeartbeats 8000000 in
set_option maxRecDepth 10000 in
theorem plays_walk (W : World) (wr rd sz de qu : Int) (fl : Bool) (a : Option Addr) (len cap : Nat) (F : Nat → Stp) (hF : SpI W a len F) :
    Calls Try.prog 6 #[.agg #[.int .i64 wr, .int .i64 rd, .int .i64 sz, .int .i64 de, .int .i64 qu, .bool fl], .slice a len cap] W fun e w' => e = .returned (.bool true) ∧ Kp W w' := by
  have HF : Hid (SpI W a len F) := hF
  have t7 := known_any (W.alloc (.cells #[.int .i64 wr, .int .i64 rd, .int .i64 sz, .int .i64 de, .int .i64 qu, .bool fl] 23))
  clear hF
  go_enter Try.func6, Try.ntmps6
  go_wp2_with fail
  go_at_call 7
  refine t7.mono ?_
  rintro e w1 ⟨rfl, k1⟩
  obtain ⟨A, hA⟩ : ∃ A, A = W.heap.size := ⟨_, rfl⟩
  have kA := Kp.al W (.cells #[.int .i64 wr, .int .i64 rd, .int .i64 sz, .int .i64 de, .int .i64 qu, .bool fl] 23)
  have bA1 : w1.heap[A]? = some (.cells #[.int .i64 wr, .int .i64 rd, .int .i64 sz, .int .i64 de, .int .i64 qu, .bool fl] 23 (0, 0)) := by rw [hA]; exact k1.heap (heap_alloc_new W _)
  have AC : Hid (∀ wx : World, wx.heap[A]? = some (.cells #[.int .i64 wr, .int .i64 rd, .int .i64 sz, .int .i64 de, .int .i64 qu, .bool fl] 23 (0, 0)) → wx.cell? ⟨A, 0, none⟩ = some (.int .i64 wr) ∧ wx.cell? ⟨A, 1, none⟩ = some (.int .i64 rd) ∧ wx.cell? ⟨A, 2, none⟩ = some (.int .i64 sz) ∧ wx.cell? ⟨A, 3, none⟩ = some (.int .i64 de) ∧ wx.cell? ⟨A, 4, none⟩ = some (.int .i64 qu) ∧ wx.cell? ⟨A, 5, none⟩ = some (.bool fl)) := fun wx hb => ⟨(cells_at hb 0).1, (cells_at hb 1).1, (cells_at hb 2).1, (cells_at hb 3).1, (cells_at hb 4).1, (cells_at hb 5).1⟩
  have K1 : Hid (Kp W w1 ∧ A = W.heap.size ∧ w1.heap[A]? = some (.cells #[.int .i64 wr, .int .i64 rd, .int .i64 sz, .int .i64 de, .int .i64 qu, .bool fl] 23 (0, 0))) := ⟨kA.trans k1, hA, bA1⟩
  obtain ⟨x0, x1, x2, x3, x4, x5⟩ := AC.out _ bA1
  have t9 := refNew_any w1 wr rd sz de qu fl
  rw [← hA]
  clear t7 k1 kA hA bA1
  go_wp2_with fail
  go_at_call 9
  refine t9.mono ?_
  rintro e w2 ⟨k2, hcase⟩
  have bA2 := k2.heap K1.out.2.2
  obtain ⟨y0, y1, y2, y3, y4, y5⟩ := AC.out _ bA2
  have t8 := new_any w2 wr rd sz de qu fl
  clear t9 x0 x1 x2 x3 x4 x5
  rcases hcase with ⟨hm, rfl⟩ | ⟨hm, Fb, rfl, hF1, hF2⟩
  · go_wp2_with fail
    go_at_call 8
    refine t8.mono ?_
    rintro e w3 ⟨k3, ⟨_, rfl⟩ | ⟨hm2, _⟩⟩
    · have HK : Hid (Kp W w3) := (K1.out.1.trans k2).trans k3
      clear t8 y0 y1 y2 y3 y4 y5 bA2 k2 k3
      go_wp2_with fail
      go_ret
      exact ⟨rfl, HK.out⟩
    · rw [hm] at hm2; cases hm2
  · go_wp2_with fail
    go_at_call 8
    refine t8.mono ?_
    rintro e w3 ⟨k3, ⟨hm2, _⟩ | ⟨_, B, rfl, hB1, hQ3⟩⟩
    · rw [hm] at hm2; cases hm2
    have bA3 := k3.heap bA2
    obtain ⟨z0, z1, z2, z3, z4, z5⟩ := AC.out _ bA3
    have hmy := may_ok hm
    simp only at hmy
    obtain ⟨n8, hn8⟩ : ∃ n8 : Nat, (n8 : Int) = 256 - sz.tmod 256 := ⟨(256 - sz.tmod 256).toNat, by
      have h1 := Int.tmod_lt_of_pos sz (by omega : (0 : Int) < 256)
      omega⟩
    have hmod : sz.tmod 256 = sz % 256 := Int.tmod_eq_emod_of_nonneg (by omega)
    have b8 : 4 ≤ n8 ∧ n8 ≤ 256 ∧ n8 % 4 = 0 := by omega
    have hw1 : IntKind.i64.wrap (sz.tmod 256) = sz.tmod 256 := w64 (by omega) (by omega)
    have hw2 : IntKind.i64.wrap (256 - sz.tmod 256) = (n8 : Nat) := by rw [w64 (by omega) (by omega)]; omega
    obtain ⟨n9, hn9⟩ : ∃ n9, n9 = n8 + 4 := ⟨_, rfl⟩
    have N9 : Hid (n9 = n8 + 4) := hn9
    have hw3 : IntKind.i64.wrap (260 - sz.tmod 256) = (n9 : Nat) := by rw [w64 (by omega) (by omega)]; omega
    have t8b := new_any w3 4 6 (n8 : Nat) 1 1 false
    have hmb : QD.may ⟨4, 6, (n8 : Nat), 1, 1, false⟩ = true := by
      have e1 : szB (n8 : Nat) = true := by
        unfold szB wiB
        simp only [Bool.and_eq_true, decide_eq_true_eq]
        omega
      unfold QD.may wiB
      simp [e1]
    have H3 : Hid (Kp w1 w3 ∧ IsQ w3 B (.slice none 0 0) (.slice none 0 0) (QS.mt ⟨wr, rd, sz, de, qu, fl⟩) ∧ w1.heap.size ≤ B ∧ w1.heap.size ≤ Fb ∧ IsR w3 Fb (.slice none 0 0) (.slice none 0 0) (QS.mt ⟨wr, rd, sz, de, qu, fl⟩)) := by
      refine ⟨k2.trans k3, hQ3, by have := k2.size; omega, hF1, ⟨k3.heap hF2, OM.nil _, OM.nil _, fun m hm => by simp [QS.mt] at hm, fun k hk => by simp [Value.ownBlock] at hk, mt_ok hm⟩⟩
    have B8 : Hid (4 ≤ n8 ∧ n8 ≤ 256 ∧ n8 % 4 = 0) := b8
    clear t8 y0 y1 y2 y3 y4 y5 bA2 k2 k3 hB1 hQ3 hF1 hF2 hmod hmy hn8 b8 hn9
    go_wp2_with fail
    go_at_call 8
    refine t8b.mono ?_
    rintro e w4 ⟨k4, ⟨hm2, _⟩ | ⟨_, Z, rfl, hZ1, hZ4⟩⟩
    · rw [hmb] at hm2; cases hm2
    have bA4 := k4.heap bA3
    obtain ⟨y0, y1, y2, y3, y4, y5⟩ := AC.out _ bA4
    have b8 := B8.out
    have hmk := fun w => makeB w n8 (by omega)
    have kmk := Kp.al w4 (.cells (repB n8) 5)
    have omk := madeB w4 n8 (by unfold maxLen; omega)
    have t14 := send_any _ Z _ _ _ (hZ4.kp kmk) 4 1 _ _ (omk.bs (by simp; omega))
    have H4 : Hid (Kp w3 w4 ∧ w3.heap.size ≤ Z ∧ w4.heap[A]? = some (.cells #[.int .i64 wr, .int .i64 rd, .int .i64 sz, .int .i64 de, .int .i64 qu, .bool fl] 23 (0, 0))) := ⟨k4, hZ1, bA4⟩
    clear t8b z0 z1 z3 z4 z5 bA3 k4 hZ1 bA4 hZ4 omk y0 y1 y3 y4 y5 b8 hmb
    generalize hrb : repB n8 = R8 at *
    clear hrb
    go_wp2_with fail
    go_at_call 14
    refine t14.mono ?_
    rintro e w5 ⟨rfl, v5, vs5, hI5, c5, f5, n5⟩
    have b8 := B8.out
    have hfu : (QS.mt ⟨4, 6, (n8 : Nat), 1, 1, false⟩).fu = false := by simp [QS.fu, QS.mt]
    have hE1 : (QS.mt ⟨4, 6, (n8 : Nat), 1, 1, false⟩).sE 4 (List.replicate n8 (0 : Int)).length = 0 := sE_ok.2 ⟨rfl, by simp [QS.mt], by simp; omega, hfu⟩
    have hs1 : (QS.mt ⟨4, 6, (n8 : Nat), 1, 1, false⟩).send 4 ⟨v5, List.replicate n8 0, 1⟩ = (QS.mt ⟨4, 6, (n8 : Nat), 1, 1, false⟩).push ⟨v5, List.replicate n8 0, 1⟩ := by unfold QS.send; rw [if_pos hE1]
    rw [hs1] at hI5
    rw [hE1]
    obtain ⟨S5, hS5⟩ : ∃ S5,S5 = (QS.mt ⟨4, 6, (n8 : Nat), 1, 1, false⟩).push ⟨v5, List.replicate n8 0, 1⟩ := ⟨_, rfl⟩
    rw [← hS5] at hI5
    have hn9 := N9.out
    have kmk2 := Kp.al w5 (.cells (repB n9) 5)
    have omk2 := madeB w5 n9 (by unfold maxLen; omega)
    have hE2 : S5.sE 4 (List.replicate n9 (0 : Int)).length = 172 := by
      rw [hS5]
      unfold QS.sE
      rw [if_neg (by simp [QS.push, QS.mt]), if_pos (by simp [QS.push, QS.mt]; omega)]
    have hs2 : ∀ v, S5.send 4 ⟨v, List.replicate n9 0, 1⟩ = S5 := fun v => by unfold QS.send; rw [if_neg (by rw [hE2]; omega)]
    have t14b := send_any _ Z _ _ _ (hI5.kp kmk2) 4 1 _ _ (omk2.bs (by simp; omega))
    rw [hE2] at t14b
    have hmk2 := fun w => makeB w n9 (by omega)
    have c45 : Kp w3 w5 := by
      have h4 := H4.out
      refine Chg.trans (h4.1.trans kmk) c5 (fun k hk e => ?_)
      rcases e with e | e | e
      · omega
      · simp [Value.ownBlock] at e
      · simp [Value.ownBlock] at e
    have hvs5 : ∀ k, vs5.ownBlock = some k → w3.heap.size ≤ k := fun k hk => by
      have h4 := H4.out
      rcases f5 k (.inr (.inr hk)) with (e | e | e) | e
      · omega
      · simp [Value.ownBlock] at e
      · simp [Value.ownBlock] at e
      · have := (h4.1.trans kmk).size; omega
    have H5 : Hid (Kp w3 w5 ∧ S5 = (QS.mt ⟨4, 6, (n8 : Nat), 1, 1, false⟩).push ⟨v5, List.replicate n8 0, 1⟩ ∧ (∀ k, vs5.ownBlock = some k → w3.heap.size ≤ k) ∧ (∀ k, v5.ownBlock = some k → w3.heap.size ≤ k) ∧ (∀ v, S5.send 4 ⟨v, List.replicate n9 0, 1⟩ = S5)) := ⟨c45, hS5, hvs5, fun k hk => by have := n5 k hk; have := (H4.out.1.trans kmk).size; omega, hs2⟩
    have bA5 := c45.heap (show w3.heap[A]? = _ from by
      have := H3.out.1.heap K1.out.2.2
      exact this)
    obtain ⟨_, _, u2, _, _, _⟩ := AC.out _ bA5
    clear t14 c5 f5 n5 b8 hfu hE1 hs1 hS5 omk2 hE2 hs2 c45 hvs5 bA5 hmk kmk hI5 y2 hn9
    generalize hrb : repB n9 = R9 at *
    clear hrb
    go_wp2_with fail
    go_at_call 14
    refine t14b.mono ?_
    rintro e w7 ⟨rfl, v7, vs7, hI7, c7, f7, n7⟩
    have h5 := H5.out
    rw [h5.2.2.2.2 v7] at hI7
    have ons : ∀ k, (PT.mk Z (.slice none 0 0) vs7 S5).on k → w3.heap.size ≤ k := fun k hk => by
      have sz5 := (h5.1.trans kmk2).size
      have hZ := H4.out.2.1
      rcases hk with hk | hk
      · rcases f7 k hk with (e | e | e) | e
        · omega
        · simp [Value.ownBlock] at e
        · exact h5.2.2.1 k e
        · omega
      · rw [h5.2.1] at hk
        simp only [QS.push, QS.mt, List.nil_append] at hk
        obtain ⟨m, hm, e⟩ := List.mem_filterMap.1 hk
        simp at hm
        subst hm
        exact h5.2.2.2.1 k e
    have k37 : Kp w3 w7 := Chg.trans (h5.1.trans kmk2) c7 (fun k hk e => by
      have hZ := H4.out.2.1
      rcases e with e | e | e
      · omega
      · simp [Value.ownBlock] at e
      · have := h5.2.2.1 k e; omega)
    have h3 := H3.out
    have bA7 := (h3.1.trans k37).heap K1.out.2.2
    obtain ⟨q0, q1, q2, q3, q4, q5⟩ := AC.out _ bA7
    have szW := K1.out.1.size
    have lB := h3.2.1.lt
    have lF := h3.2.2.2.2.lt
    obtain ⟨K, hK⟩ : ∃ K, K = w7.heap.size := ⟨_, rfl⟩
    obtain ⟨w8, hw8⟩ : ∃ w8, w8 = w7.alloc (.cells #[.pointer (some ⟨B, 0, none⟩), .pointer (some ⟨Fb, 0, none⟩), .int .i64 wr, .int .i64 rd, .int .i64 sz, .int .i64 de, .int .i64 qu, .bool fl, .slice none 0 0, .slice none 0 0, .slice none 0 0, .slice none 0 0, .slice none 0 0, .slice none 0 0, .slice none 0 0, .slice none 0 0, .bool false, .slice none 0 0, .slice none 0 0, .slice none 0 0, .slice none 0 0] 60) := ⟨_, rfl⟩
    have J0 : Hid (LwJ W K ⟨wr, rd, sz, de, qu, fl⟩ ⟨Z, .slice none 0 0, vs7, S5⟩ 0 0 0 0 0 0 none w8) := by
      have kW7 : Kp W w7 := (K1.out.1.trans h3.1).trans k37
      obtain ⟨pl, pz⟩ := Pl.init kW7 (h3.2.1.kp k37) (h3.2.2.2.2.kp k37) (Z := ⟨Z, .slice none 0 0, vs7, S5⟩) hI7 (by omega) (by omega) (fun k hk => by have := ons k hk; omega)
      have hpc : pcl (uu B Fb ⟨wr, rd, sz, de, qu, fl⟩) v0 = #[.pointer (some ⟨B, 0, none⟩), .pointer (some ⟨Fb, 0, none⟩), .int .i64 wr, .int .i64 rd, .int .i64 sz, .int .i64 de, .int .i64 qu, .bool fl, .slice none 0 0, .slice none 0 0, .slice none 0 0, .slice none 0 0, .slice none 0 0, .slice none 0 0, .slice none 0 0, .slice none 0 0, .bool false, .slice none 0 0, .slice none 0 0, .slice none 0 0, .slice none 0 0] := rfl
      rw [hpc, ← hw8, ← hK] at pl
      rw [← hK] at pz
      refine ⟨⟨_, _, _, _, _, pl, QE.refl _, rfl, ⟨rfl, rfl, rfl, rfl, rfl, rfl⟩, (fun s hs => by cases hs), ?_, pz⟩, hI7.kp (by rw [hw8]; exact Kp.al _ _)⟩
      refine ⟨?_, ?_, ?_, ?_, ?_, ?_, ?_, ?_, ?_, ?_, ?_, ?_⟩ <;> simp [b0]
    have st0 : S5.ac = 1 ∧ S5.rc = 0 ∧ S5.qd.length = 0 ∧ S5.st.length = 1 ∧ S5.lo = 0 := by rw [h5.2.1]; simp [QS.push, QS.mt]
    have ST : Hid (S5.ac = 1 ∧ S5.rc = 0 ∧ S5.qd.length = 0 ∧ S5.st.length = 1 ∧ S5.lo = 0) := st0
    clear st0
    clear t14b c7 f7 n7 hI7 h5 ons k37 h3 bA7 szW lB lF kmk2 H3 H4 H5 hmk2 u2
    go_upto_region 16 with fail
    rw [← hK, ← hw8]
    clear hK hw8 q0 q1 q2 q3 q4 q5 hw1 hw2 hw3
    go_wp2_with fail
    go_loopw [15, 16, 17, 18] (fun s15 s16 s17 s18 wx => ∃ i : Nat, s15 = .int .i64 (i : Nat) ∧ i ≤ 300 ∧ i ≤ len ∧ Hid (LwJ W K ⟨wr, rd, sz, de, qu, fl⟩ ⟨Z, .slice none 0 0, vs7, S5⟩ (i * 3000000) (i * 65) (i * 130) (i * 4) (i * 2) (i * 2) none wx)) (fun s15 _ _ _ _ => 300 - nI s15)
    case atStart => exact ⟨0, rfl, by omega, by omega, by simpa using J0⟩
    case round =>
      obtain ⟨i, rfl, hi, hil, HI⟩ := hrel
      clear J0
      rename World => wx
      by_cases hlt : i < len ∧ i < 300
      · have hz1 : (i : Int) < (len : Nat) := by omega
        have hz2 : (i : Int) < 300 := by omega
        obtain ⟨b, off, rfl, hc⟩ := HF.out.ex.resolve_left (by omega)
        have hok := HF.out.ok i hlt.1
        have hcs := hc i hlt.1
        obtain ⟨sp, hsp⟩ : ∃ sp, sp = F i := ⟨_, rfl⟩
        rw [← hsp] at hcs hok
        obtain ⟨⟨zz, kc1⟩, kc2⟩ := HI.out.kc
        have hpar : (i : Int).tmod 2 = ((i % 2 : Nat) : Int) := by rw [Int.tmod_eq_emod_of_nonneg (by omega)]; omega
        have hw2 : IntKind.i64.wrap ((i % 2 : Nat) : Int) = ((i % 2 : Nat) : Int) := w64 (by omega) (by omega)
        obtain ⟨pr, hpr⟩ : ∃ pr : Nat, pr = i % 2 := ⟨_, rfl⟩
        rw [← hpr] at hpar hw2
        obtain ⟨sb, hsb⟩ : ∃ sb : Bool, sb = ((pr : Int) == 1) := ⟨_, rfl⟩
        have I1 := HI.out.set sb
        have kw := I1.kW
        have g0 := kw.cell (hcs 0 (.int .i64 sp.kd) rfl)
        have g1 := kw.cell (hcs 1 (.int .i64 sp.c) rfl)
        have g2 := kw.cell (hcs 2 (.int .u64 sp.tk) rfl)
        have g3 := kw.cell (hcs 3 sp.dv rfl)
        have g4 := kw.cell (hcs 4 (.int .i64 sp.x.ac) rfl)
        have g5 := kw.cell (hcs 5 (.int .i64 sp.x.rc) rfl)
        have g6 := kw.cell (hcs 6 (.int .i64 sp.x.q) rfl)
        have g7 := kw.cell (hcs 7 (.int .i64 sp.x.t) rfl)
        have g8 := kw.cell (hcs 8 (.int .i64 sp.x.lo) rfl)
        have g9 := kw.cell (hcs 9 sp.x.vq rfl)
        have g10 := kw.cell (hcs 10 sp.x.vs rfl)
        rw [Nat.add_zero] at g0
        have t17 := I1.step sp hok (by omega) (by omega) (by omega) (by omega) (by omega) (by omega)
        have HIL : Hid (i < len ∧ i < 300) := hlt
        have HSB : Hid (sb = ((pr : Int) == 1)) := hsb
        obtain ⟨wy, hwy⟩ : ∃ wy, wy = wx.setCell ⟨K, 16, none⟩ (.bool sb) := ⟨_, rfl⟩
        have HWY : Hid (wy = wx.setCell ⟨K, 16, none⟩ (.bool sb)) := hwy
        rw [← hwy] at g0 g1 g2 g3 g4 g5 g6 g7 g8 g9 g10 t17
        clear hc hcs hok hsp HI I1 kw hpr hlt hsb hwy
        go_upto_region 20 with fail
        rw [← HSB.out, ← HWY.out]
        clear kc1 kc2 hpar hw2 HWY HSB
        go_wp2_with fail
        go_at_call 17
        refine t17.mono ?_
        rintro e w10 ⟨rfl, I2⟩
        have t18 := I2.looks (by omega) (by omega) (by omega) (by omega) (by omega) (by omega)
        have HI2 : Hid (LwJ W K ⟨wr, rd, sz, de, qu, fl⟩ ⟨Z, .slice none 0 0, vs7, S5⟩ (i * 3000000 + 3000000) (i * 65 + 1) (i * 130 + 2) (i * 4) (i * 2 + 2) (i * 2) (some sb) w10) := I2
        clear t17 g0 g1 g2 g3 g4 g5 g6 g7 g8 g9 g10 I2
        go_wp2_with fail
        go_at_call 18
        refine t18.mono ?_
        rintro e w11 ⟨rfl, k11⟩
        have t19 := (HI2.out.kp k11).state (by omega) (by omega) (by omega) (by omega)
        clear t18 k11
        go_wp2_with fail
        go_at_call 19
        refine t19.mono ?_
        rintro e w12 ⟨rfl, I3⟩
        have HN : Hid (LwJ W K ⟨wr, rd, sz, de, qu, fl⟩ ⟨Z, .slice none 0 0, vs7, S5⟩ ((i + 1) * 3000000) ((i + 1) * 65) ((i + 1) * 130) ((i + 1) * 4) ((i + 1) * 2) ((i + 1) * 2) none w12) := I3.wid (by omega) (by omega) (by omega) (by omega) (by omega) (by omega)
        clear t19 I3
        go_wp2_with fail
        exact ⟨⟨i + 1, by go_num, by have := HIL.out; omega, by have := HIL.out; omega, HN⟩, by have := HIL.out; simp [nI]; omega⟩
      · have tS := stat_any wx Z _ _ S5 HI.out.z
        obtain ⟨s1, s2, s3, s4, s5⟩ := ST.out
        rw [s1, s2, s3, s4, s5] at tS
        have tE : Hid (∀ w2, Kp wx w2 → Calls Try.prog 20 #[.pointer (some ⟨K, 8, none⟩)] w2 fun x w' => x = .returned (.bool true) ∧ Kp W w' ∧ ∀ A ob, wx.heap.size ≤ A → w2.heap[A]? = some ob → w'.heap[A]? = some ob) := fun w2 k => HI.out.ends k (by omega) (by omega) (by omega) (by omega) (by omega) (by omega)
        have HC : Hid (¬ (i < len ∧ i < 300)) := hlt
        clear hlt s1 s2 s3 s4 s5 HI
        by_cases hl1 : i < len
        · have hz1 : (i : Int) < (len : Nat) := by omega
          have hz2 : ¬ (i : Int) < 300 := by have := HC.out; omega
          go_wp2_with fail
          go_at_call 16
          refine tS.mono ?_
          rintro e w20 ⟨rfl, k20⟩
          obtain ⟨w21, hw21⟩ : ∃ w21, w21 = w20.alloc (.cells #[.int .i64 1, .int .i64 0, .int .i64 0, .int .i64 1, .int .i64 0] 48) := ⟨_, rfl⟩
          have k21 : Kp wx w21 := by rw [hw21]; exact k20.trans (Kp.al _ _)
          have b21 : w21.heap[w20.heap.size]? = some (.cells #[.int .i64 1, .int .i64 0, .int .i64 0, .int .i64 1, .int .i64 0] 48 (0, 0)) := by rw [hw21]; exact heap_alloc_new w20 _
          have t20 := tE.out w21 k21
          have sz20 := k20.size
          have HB : Hid (w21.heap[w20.heap.size]? = some (.cells #[.int .i64 1, .int .i64 0, .int .i64 0, .int .i64 1, .int .i64 0] 48 (0, 0)) ∧ wx.heap.size ≤ w20.heap.size) := ⟨b21, sz20⟩
          clear tS k20 k21 b21 sz20
          go_upto_region 26 with fail
          rw [← hw21]
          obtain ⟨S, hS⟩ : ∃ S, S = w20.heap.size := ⟨_, rfl⟩
          rw [← hS] at HB ⊢
          clear hw21 hS
          go_wp2_with fail
          go_at_call 20
          refine t20.mono ?_
          rintro e w22 ⟨rfl, kW, keep⟩
          have b22 := keep S _ HB.out.2 HB.out.1
          have f0 : w22.cell? ⟨S, 0, none⟩ = some (.int .i64 1) := (cells_at b22 0).1
          have f1 : w22.cell? ⟨S, 1, none⟩ = some (.int .i64 0) := (cells_at b22 1).1
          have f2 : w22.cell? ⟨S, 2, none⟩ = some (.int .i64 0) := (cells_at b22 2).1
          have f3 : w22.cell? ⟨S, 3, none⟩ = some (.int .i64 1) := (cells_at b22 3).1
          have f4 : w22.cell? ⟨S, 4, none⟩ = some (.int .i64 0) := (cells_at b22 4).1
          have KW : Hid (Kp W w22) := kW
          clear t20 kW keep b22
          go_wp2_with fail
          go_ret
          exact ⟨rfl, KW.out⟩
        · have hz1 : ¬ (i : Int) < (len : Nat) := by omega
          go_wp2_with fail
          go_at_call 16
          refine tS.mono ?_
          rintro e w20 ⟨rfl, k20⟩
          obtain ⟨w21, hw21⟩ : ∃ w21, w21 = w20.alloc (.cells #[.int .i64 1, .int .i64 0, .int .i64 0, .int .i64 1, .int .i64 0] 48) := ⟨_, rfl⟩
          have k21 : Kp wx w21 := by rw [hw21]; exact k20.trans (Kp.al _ _)
          have b21 : w21.heap[w20.heap.size]? = some (.cells #[.int .i64 1, .int .i64 0, .int .i64 0, .int .i64 1, .int .i64 0] 48 (0, 0)) := by rw [hw21]; exact heap_alloc_new w20 _
          have t20 := tE.out w21 k21
          have sz20 := k20.size
          have HB : Hid (w21.heap[w20.heap.size]? = some (.cells #[.int .i64 1, .int .i64 0, .int .i64 0, .int .i64 1, .int .i64 0] 48 (0, 0)) ∧ wx.heap.size ≤ w20.heap.size) := ⟨b21, sz20⟩
          clear tS k20 k21 b21 sz20
          go_upto_region 26 with fail
          rw [← hw21]
          obtain ⟨S, hS⟩ : ∃ S, S = w20.heap.size := ⟨_, rfl⟩
          rw [← hS] at HB ⊢
          clear hw21 hS
          go_wp2_with fail
          go_at_call 20
          refine t20.mono ?_
          rintro e w22 ⟨rfl, kW, keep⟩
          have b22 := keep S _ HB.out.2 HB.out.1
          have f0 : w22.cell? ⟨S, 0, none⟩ = some (.int .i64 1) := (cells_at b22 0).1
          have f1 : w22.cell? ⟨S, 1, none⟩ = some (.int .i64 0) := (cells_at b22 1).1
          have f2 : w22.cell? ⟨S, 2, none⟩ = some (.int .i64 0) := (cells_at b22 2).1
          have f3 : w22.cell? ⟨S, 3, none⟩ = some (.int .i64 1) := (cells_at b22 3).1
          have f4 : w22.cell? ⟨S, 4, none⟩ = some (.int .i64 0) := (cells_at b22 4).1
          have KW : Hid (Kp W w22) := kW
          clear t20 kW keep b22
          go_wp2_with fail
          go_ret
          exact ⟨rfl, KW.out⟩
end Go.Proofs.Ytnblhaeojlpmmaa
