import Derived.Test.YtkndlkcbhpfjoaaGc
namespace Go.Proofs.Ytkndlkcbhpfjoaa
open Go.ChangeShapes Go.WideShapes Go.ChangeAt Go.RowKit Go.Shelf
set_option linter.unusedVariables false
/-- Two controllers, the same to one cell. -/
def ApI (w wr : World) (B B2 : Nat) (c : Nat) : Prop := ∃ s t, IsG wr B s ∧ IsG wr B2 t ∧ Sim c s t ∧ Kp w wr
set_option maxHeartbeats 4000000 in
set_option maxRecDepth 10000 in
theorem apart_walk (w : World) (a : Option Addr) (len cap : Nat) (Z : Nat → Int) (h : IntsIn w a len Z) (a2 : Option Addr) (len2 cap2 : Nat) (F : Nat → Ov) (h2 : OpsIn w a2 len2 F) (which : Int) (hw : InI which) :
    Calls Try.prog 6 #[.slice a len cap, .slice a2 len2 cap2, .int .i64 which] w fun e w' => e = .returned (.bool true) ∧ Kp w w' := by
  have hA := awake_any w
  have hl2 := h2.1
  have H : Hid (IntsIn w a len Z ∧ OpsIn w a2 len2 F ∧ InI which) := ⟨h, h2, hw⟩
  clear h h2 hw
  go_enter Try.func6, Try.ntmps6
  go_wp2_with fail
  go_at_call 9
  refine hA.mono ?_
  rintro e w1 ⟨rfl, k1⟩
  clear hA
  have hR := lrouted_any w1 a len cap Z (H.out.1.kp k1)
  have hBw : w.heap.size ≤ w1.heap.size := k1.size
  generalize w1.heap.size = B at hR hBw
  go_wp2_with fail
  go_at_call 10
  refine hR.mono ?_
  rintro e w2 ⟨rfl, g2, k2⟩
  clear hR
  have hR := lrouted_any w2 a len cap Z (H.out.1.kp (Kp.trans k1 k2))
  have hB2 : B < w2.heap.size := g2.lt
  generalize w2.heap.size = B2 at hR hB2
  have HB : Hid (w.heap.size ≤ B ∧ B < B2) := ⟨hBw, hB2⟩
  clear hBw hB2
  go_wp2_with fail
  go_at_call 10
  refine hR.mono ?_
  rintro e w3 ⟨rfl, g3, k3⟩
  clear hR
  have hP := pick_any w3 which 8 (by omega) (by omega) H.out.2.2
  have hp8 := pk_lt which 8 (by omega)
  generalize pk which 8 = p at hP hp8
  have HI0 : Hid (ApI w w3 B B2 (1 + p)) := ⟨_, _, g2.kp k3, g3, fun i hi => ⟨rfl, fun _ => ⟨rfl, rfl⟩⟩, Kp.trans k1 (Kp.trans k2 k3)⟩
  have e1 : IntKind.i64.wrap (1 + (p : Int)) = ((1 + p : Nat) : Int) := by simp [IntKind.wrap, IntKind.bits, IntKind.signed]; omega
  have hcp : 0 < 1 + p := by omega
  generalize 1 + p = c at *
  clear g2 k2 k1 g3 k3 hp8
  go_wp2_with fail
  go_at_call 11
  refine hP.mono ?_
  rintro e wz ⟨rfl, hwz⟩
  rw [hwz]
  clear hP hwz
  go_wp2
  clear e1
  go_loopw [11] (fun s11 wr => ∃ j : Nat, s11 = .int .i64 j ∧ j ≤ len2 ∧ Hid (ApI w wr B B2 c)) (fun s11 _ => len2 - (intOf s11).toNat)
  case atStart => exact ⟨0, rfl, by omega, HI0⟩
  case round =>
    obtain ⟨j, rfl, hj, HI⟩ := hrel
    clear HI0
    by_cases hlt : j < len2
    · have hjz : (j : Int) < (len2 : Int) := by omega
      obtain ⟨s, t, gs, gt, sim, kk⟩ := HI.out
      have hi2 := H.out.2.1.kp kk
      rcases hi2.2.2 with h0 | ⟨b, o, rfl, hc⟩
      · omega
      · have hrg := hc j hlt
        have hsz := size40 (F j)
        have hok := hi2.2.1 j
        have hW := whose_any wr B s gs (F j) hok
        have HS : Hid (IsG wr B s ∧ IsG wr B2 t ∧ Sim c s t ∧ Kp w wr ∧ (F j).ok) := ⟨gs, gt, sim, kk, hok⟩
        clear hi2 hc gs gt sim kk HI hok
        go_wp2_with (refine wpList_load_mid rfl 40 (.tmp 46) rfl b (o + j * 38) rfl (ocs (F j)) _ hrg Try.underlying40 rfl hsz ?_)
        go_at_call 19
        refine hW.mono ?_
        rintro e w5 ⟨rfl, k5⟩
        clear hW
        have hDo := does_any w5 B s (HS.out.1.kp k5) (F j) HS.out.2.2.2.2
        have hrg5 : w5.rangeAt b (o + j * 38) (ocs (F j)) := fun q v hv => k5.cell (hrg q v hv)
        have hbw : b < w.heap.size := by
          have := (ocs (F j)).getElem?_eq_getElem (i := 0) (by rw [ocs_len]; omega)
          have h1 := H.out.2.1.2.2
          rcases h1 with h0 | ⟨b', o', e', hc'⟩
          · omega
          · cases e'
            exact World.block_lt_of_cell? w _ (hc' j hlt 0 _ this)
        by_cases hwh : s.wh (F j) = c
        · obtain ⟨sim', en, eb⟩ := HS.out.2.2.1.both hcp (F j) hwh
          have hwz : (s.wh (F j) : Int) = (c : Int) := by omega
          have HN : Hid (Sim c (s.ds (F j)) (t.ds (F j)) ∧ b < w.heap.size) := ⟨sim', hbw⟩
          rw [en, eb] at hDo
          have HT : Hid (∀ w6, Chg w5 w6 (fun k => k = B) → Calls Try.prog 16 #[.pointer (some ⟨B2, 0, none⟩), .agg (ocs (F j)).toArray] w6 fun e w' => e = .returned (.tuple #[.int .i64 (t.dsN (F j) : Nat), .bool (t.dsB (F j))]) ∧ IsG w' B2 (t.ds (F j)) ∧ Chg w6 w' (fun k => k = B2)) := fun w6 c6 => does_any w6 B2 t ((HS.out.2.1.kp k5).chg c6 (by have := HB.out; omega)) (F j) HS.out.2.2.2.2
          generalize t.dsN (F j) = rn at *
          generalize t.dsB (F j) = rb at *
          have HK5 : Hid (Kp wr w5) := k5
          clear hrg sim' en eb hwh k5 hbw
          go_wp2_with (refine wpList_load_mid rfl 40 (.tmp 55) rfl b (o + j * 38) rfl (ocs (F j)) _ hrg5 Try.underlying40 rfl hsz ?_)
          go_at_call 16
          refine hDo.mono ?_
          rintro e w6 ⟨rfl, g6, c6⟩
          clear hDo
          have hDo2 := HT.out w6 c6
          have hrg6 : w6.rangeAt b (o + j * 38) (ocs (F j)) := fun q v hv => by
            have h1 := hrg5 q v hv
            rw [c6.cell (World.block_lt_of_cell? w5 _ h1) (fun e => by have := HB.out; have := HN.out.2; have e' : b = B := e; omega)]
            exact h1
          have HG6 : Hid (IsG w6 B (s.ds (F j)) ∧ Chg w5 w6 (fun k => k = B)) := ⟨g6, c6⟩
          clear g6 c6 hrg5 HT
          go_wp2_with (refine wpList_load_mid rfl 40 (.tmp 66) rfl b (o + j * 38) rfl (ocs (F j)) _ hrg6 Try.underlying40 rfl hsz ?_)
          go_at_call 16
          refine hDo2.mono ?_
          rintro e w7 ⟨rfl, g7, c7⟩
          clear hDo2 hrg6
          have HZ : Hid (ApI w w7 B B2 c) := ⟨_, _, HG6.out.1.chg c7 (by have := HB.out; omega), g7, HN.out.1, Chg.trans (Chg.trans (Kp.trans HS.out.2.2.2.1 HK5.out) HG6.out.2 (fun i hi e => by have := HB.out; omega)) c7 (fun i hi e => by have := HB.out; omega)⟩
          clear g7 c7 HG6 HN HK5 HS
          go_wp2
          exact ⟨⟨j + 1, by go_num, by omega, HZ⟩, by simp [intOf]; omega⟩
        · have sim' := HS.out.2.2.1.other (F j) hwh
          have hwz : ¬ (s.wh (F j) : Int) = (c : Int) := by omega
          have hwb : ((s.wh (F j) : Int) == (c : Int)) = false := by rw [beq_eq_false_iff_ne]; omega
          generalize s.dsN (F j) = rn at *
          generalize s.dsB (F j) = rb at *
          have HK5 : Hid (Kp wr w5 ∧ Sim c (s.ds (F j)) t) := ⟨k5, sim'⟩
          clear hrg sim' hwh k5 hbw
          go_wp2_with (refine wpList_load_mid rfl 40 (.tmp 55) rfl b (o + j * 38) rfl (ocs (F j)) _ hrg5 Try.underlying40 rfl hsz ?_)
          go_at_call 16
          refine hDo.mono ?_
          rintro e w6 ⟨rfl, g6, c6⟩
          clear hDo
          have HZ : Hid (ApI w w6 B B2 c) := ⟨_, _, g6, (HS.out.2.1.kp HK5.out.1).chg c6 (by have := HB.out; omega), HK5.out.2, Chg.trans (Kp.trans HS.out.2.2.2.1 HK5.out.1) c6 (fun i hi e => by have := HB.out; omega)⟩
          clear g6 c6 hrg5 HK5 HS
          go_wp2
          exact ⟨⟨j + 1, by go_num, by omega, HZ⟩, by simp [intOf]; omega⟩
    · have hjz : ¬ (j : Int) < (len2 : Int) := by omega
      obtain ⟨s, t, gs, gt, sim, kk⟩ := HI.out
      have q1 : sw (t.mk' (c : Nat)) = sw (s.mk' (c : Nat)) := (sw_ext fun i hi => sim.mk hcp i hi).symm
      have q2 : sw (t.wt (c : Nat)) = sw (s.wt (c : Nat)) := (sw_ext fun i hi => sim.wt hcp i hi).symm
      have hM := masked_any wr B s gs (c : Nat)
      have HS : Hid (IsG wr B s ∧ IsG wr B2 t ∧ Kp w wr ∧ sw (t.mk' (c : Nat)) = sw (s.mk' (c : Nat)) ∧ sw (t.wt (c : Nat)) = sw (s.wt (c : Nat))) := ⟨gs, gt, kk, q1, q2⟩
      clear gs gt kk sim HI q1 q2
      go_wp2_with fail
      go_at_call 15
      refine hM.mono ?_
      rintro e w5 ⟨rfl, k5⟩
      clear hM
      have hM := waiting_any w5 B s (HS.out.1.kp k5) (c : Nat)
      go_wp2_with fail
      go_at_call 13
      refine hM.mono ?_
      rintro e w6 ⟨rfl, k6⟩
      clear hM
      have hM := masked_any w6 B2 t (HS.out.2.1.kp (Kp.trans k5 k6)) (c : Nat)
      rw [HS.out.2.2.2.1] at hM
      go_wp2_with fail
      go_at_call 15
      refine hM.mono ?_
      rintro e w7 ⟨rfl, k7⟩
      clear hM
      have hM := waiting_any w7 B2 t (HS.out.2.1.kp (Kp.trans (Kp.trans k5 k6) k7)) (c : Nat)
      rw [HS.out.2.2.2.2] at hM
      go_wp2_with fail
      go_at_call 13
      refine hM.mono ?_
      rintro e w8 ⟨rfl, k8⟩
      clear hM
      have HE : Hid (Kp w w8) := Kp.trans HS.out.2.2.1 (Kp.trans k5 (Kp.trans k6 (Kp.trans k7 k8)))
      clear k5 k6 k7 k8 HS
      go_wp2
      go_ret
      exact ⟨rfl, HE.out⟩
end Go.Proofs.Ytkndlkcbhpfjoaa
