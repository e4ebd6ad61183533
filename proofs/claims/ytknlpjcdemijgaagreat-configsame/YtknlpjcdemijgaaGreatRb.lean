import Derived.Test.YtknlpjcdemijgaaGreatRc
namespace Go.Proofs.YtknlpjcdemijgaaGreat
open Go.ChangeShapes Go.WideShapes Go.ChangeAt Go.RowKit
set_option linter.unusedVariables false
set_option maxHeartbeats 16000000 in
set_option maxRecDepth 100000 in
theorem requal_walk (w : World) (N N2 : Nat) (g h : Cf) (xca xwa xsa xqa yca ywa ysa yqa : Option Addr) (xcc xwc xsc xqc ycc ywc ysc yqc : Nat)
  (x1 : RdL w N 4 (CeAt N) xca g.cs) (x2 : RdL w N 3 WiAt xwa g.ws) (x3 : RdL w N 3 (SaAt N) xsa g.ss) (x4 : RdL w N 6 QuAt xqa g.qs)
  (y1 : RdL w N2 4 (CeAt N2) yca h.cs) (y2 : RdL w N2 3 WiAt ywa h.ws) (y3 : RdL w N2 3 (SaAt N2) ysa h.ss) (y4 : RdL w N2 6 QuAt yqa h.qs) (rv : Bool) (hrv : rv = decide (g = h)) :
  Calls Tryz.prog 16 #[.agg #[.int .i64 g.m.pg, .int .u32 g.m.ob, .int .i64 g.m.op, .int .i64 g.m.st, .int .i64 g.m.wy, .int .i64 g.m.li, .int .i64 g.m.sl, .int .u64 g.m.mj, .slice xca g.cs.length xcc, .slice xwa g.ws.length xwc, .slice xsa g.ss.length xsc, .slice xqa g.qs.length xqc], .agg #[.int .i64 h.m.pg, .int .u32 h.m.ob, .int .i64 h.m.op, .int .i64 h.m.st, .int .i64 h.m.wy, .int .i64 h.m.li, .int .i64 h.m.sl, .int .u64 h.m.mj, .slice yca h.cs.length ycc, .slice ywa h.ws.length ywc, .slice ysa h.ss.length ysc, .slice yqa h.qs.length yqc]] w fun r w' => r = .returned (.bool rv) ∧ Kp w w' := by
 obtain ⟨w0, hw0⟩ : ∃ w0, w0 = (w.alloc (.cells #[.int .i64 g.m.pg, .int .u32 g.m.ob, .int .i64 g.m.op, .int .i64 g.m.st, .int .i64 g.m.wy, .int .i64 g.m.li, .int .i64 g.m.sl, .int .u64 g.m.mj, .slice xca g.cs.length xcc, .slice xwa g.ws.length xwc, .slice xsa g.ss.length xsc, .slice xqa g.qs.length xqc] 31)).alloc (.cells #[.int .i64 h.m.pg, .int .u32 h.m.ob, .int .i64 h.m.op, .int .i64 h.m.st, .int .i64 h.m.wy, .int .i64 h.m.li, .int .i64 h.m.sl, .int .u64 h.m.mj, .slice yca h.cs.length ycc, .slice ywa h.ws.length ywc, .slice ysa h.ss.length ysc, .slice yqa h.qs.length yqc] 31) := ⟨_, rfl⟩
 have k0 : Kp w w0 := by rw [hw0]; exact Kp.trans (Kp.al _ _) (Kp.al _ _)
 have t0 : Two w0 w.heap.size #[.int .i64 g.m.pg, .int .u32 g.m.ob, .int .i64 g.m.op, .int .i64 g.m.st, .int .i64 g.m.wy, .int .i64 g.m.li, .int .i64 g.m.sl, .int .u64 g.m.mj, .slice xca g.cs.length xcc, .slice xwa g.ws.length xwc, .slice xsa g.ss.length xsc, .slice xqa g.qs.length xqc] #[.int .i64 h.m.pg, .int .u32 h.m.ob, .int .i64 h.m.op, .int .i64 h.m.st, .int .i64 h.m.wy, .int .i64 h.m.li, .int .i64 h.m.sl, .int .u64 h.m.mj, .slice yca h.cs.length ycc, .slice ywa h.ws.length ywc, .slice ysa h.ss.length ysc, .slice yqa h.qs.length yqc] := by
  refine ⟨by rw [hw0]; exact (Kp.al _ _).heap (heap_alloc_new w _), ?_⟩
  have := heap_alloc_new (w.alloc (.cells #[.int .i64 g.m.pg, .int .u32 g.m.ob, .int .i64 g.m.op, .int .i64 g.m.st, .int .i64 g.m.wy, .int .i64 g.m.li, .int .i64 g.m.sl, .int .u64 g.m.mj, .slice xca g.cs.length xcc, .slice xwa g.ws.length xwc, .slice xsa g.ss.length xsc, .slice xqa g.qs.length xqc] 31)) (.cells #[.int .i64 h.m.pg, .int .u32 h.m.ob, .int .i64 h.m.op, .int .i64 h.m.st, .int .i64 h.m.wy, .int .i64 h.m.li, .int .i64 h.m.sl, .int .u64 h.m.mj, .slice yca h.cs.length ycc, .slice ywa h.ws.length ywc, .slice ysa h.ss.length ysc, .slice yqa h.qs.length yqc] 31)
  rw [hw0]
  simpa using this
 have HL : Hid (RdL w N 4 (CeAt N) xca g.cs ∧ RdL w N 3 WiAt xwa g.ws ∧ RdL w N 3 (SaAt N) xsa g.ss ∧ RdL w N 6 QuAt xqa g.qs ∧ RdL w N2 4 (CeAt N2) yca h.cs ∧ RdL w N2 3 WiAt ywa h.ws ∧ RdL w N2 3 (SaAt N2) ysa h.ss ∧ RdL w N2 6 QuAt yqa h.qs) := ⟨x1, x2, x3, x4, y1, y2, y3, y4⟩
 have HK : Hid (Kp w w0 ∧ Two w0 w.heap.size #[.int .i64 g.m.pg, .int .u32 g.m.ob, .int .i64 g.m.op, .int .i64 g.m.st, .int .i64 g.m.wy, .int .i64 g.m.li, .int .i64 g.m.sl, .int .u64 g.m.mj, .slice xca g.cs.length xcc, .slice xwa g.ws.length xwc, .slice xsa g.ss.length xsc, .slice xqa g.qs.length xqc] #[.int .i64 h.m.pg, .int .u32 h.m.ob, .int .i64 h.m.op, .int .i64 h.m.st, .int .i64 h.m.wy, .int .i64 h.m.li, .int .i64 h.m.sl, .int .u64 h.m.mj, .slice yca h.cs.length ycc, .slice ywa h.ws.length ywc, .slice ysa h.ss.length ysc, .slice yqa h.qs.length yqc]) := ⟨k0, t0⟩
 have HV : Hid (rv = decide (g = h)) := hrv
 have E4 := fun W => neq24 g.m.st g.m.wy g.m.li h.m.st h.m.wy h.m.li W
 have b1 := x1.1
 have b2 := x2.1
 have b3 := x3.1
 have b4 := x4.1
 have d1 := y1.1
 have d2 := y2.1
 have d3 := y3.1
 have d4 := y4.1
 have s0 : w0.cell? ⟨w.heap.size, 0, none⟩ = some (.int .i64 g.m.pg) := (cells_at t0.1 0).1
 have r0 : w0.cell? ⟨w.heap.size + 1, 0, none⟩ = some (.int .i64 h.m.pg) := (cells_at t0.2 0).1
 have s1 : w0.cell? ⟨w.heap.size, 1, none⟩ = some (.int .u32 g.m.ob) := (cells_at t0.1 1).1
 have r1 : w0.cell? ⟨w.heap.size + 1, 1, none⟩ = some (.int .u32 h.m.ob) := (cells_at t0.2 1).1
 have s2 : w0.cell? ⟨w.heap.size, 2, none⟩ = some (.int .i64 g.m.op) := (cells_at t0.1 2).1
 have r2 : w0.cell? ⟨w.heap.size + 1, 2, none⟩ = some (.int .i64 h.m.op) := (cells_at t0.2 2).1
 have s3 : w0.cell? ⟨w.heap.size, 3, none⟩ = some (.int .i64 g.m.st) := (cells_at t0.1 3).1
 have r3 : w0.cell? ⟨w.heap.size + 1, 3, none⟩ = some (.int .i64 h.m.st) := (cells_at t0.2 3).1
 have s4 : w0.cell? ⟨w.heap.size, 4, none⟩ = some (.int .i64 g.m.wy) := (cells_at t0.1 4).1
 have r4 : w0.cell? ⟨w.heap.size + 1, 4, none⟩ = some (.int .i64 h.m.wy) := (cells_at t0.2 4).1
 have s5 : w0.cell? ⟨w.heap.size, 5, none⟩ = some (.int .i64 g.m.li) := (cells_at t0.1 5).1
 have r5 : w0.cell? ⟨w.heap.size + 1, 5, none⟩ = some (.int .i64 h.m.li) := (cells_at t0.2 5).1
 have s6 : w0.cell? ⟨w.heap.size, 6, none⟩ = some (.int .i64 g.m.sl) := (cells_at t0.1 6).1
 have r6 : w0.cell? ⟨w.heap.size + 1, 6, none⟩ = some (.int .i64 h.m.sl) := (cells_at t0.2 6).1
 have s7 : w0.cell? ⟨w.heap.size, 7, none⟩ = some (.int .u64 g.m.mj) := (cells_at t0.1 7).1
 have r7 : w0.cell? ⟨w.heap.size + 1, 7, none⟩ = some (.int .u64 h.m.mj) := (cells_at t0.2 7).1
 have s8 : w0.cell? ⟨w.heap.size, 8, none⟩ = some (.slice xca g.cs.length xcc) := (cells_at t0.1 8).1
 have r8 : w0.cell? ⟨w.heap.size + 1, 8, none⟩ = some (.slice yca h.cs.length ycc) := (cells_at t0.2 8).1
 have s9 : w0.cell? ⟨w.heap.size, 9, none⟩ = some (.slice xwa g.ws.length xwc) := (cells_at t0.1 9).1
 have r9 : w0.cell? ⟨w.heap.size + 1, 9, none⟩ = some (.slice ywa h.ws.length ywc) := (cells_at t0.2 9).1
 have s10 : w0.cell? ⟨w.heap.size, 10, none⟩ = some (.slice xsa g.ss.length xsc) := (cells_at t0.1 10).1
 have r10 : w0.cell? ⟨w.heap.size + 1, 10, none⟩ = some (.slice ysa h.ss.length ysc) := (cells_at t0.2 10).1
 have s11 : w0.cell? ⟨w.heap.size, 11, none⟩ = some (.slice xqa g.qs.length xqc) := (cells_at t0.1 11).1
 have r11 : w0.cell? ⟨w.heap.size + 1, 11, none⟩ = some (.slice yqa h.qs.length yqc) := (cells_at t0.2 11).1
 clear x1 x2 x3 x4 y1 y2 y3 y4 k0 t0 hrv
 by_cases z0 : g.m.pg = h.m.pg
 ·have q0 : (g.m.pg != h.m.pg) = false := by simp; exact z0
  by_cases z1 : g.m.ob = h.m.ob
  ·have q1 : (g.m.ob != h.m.ob) = false := by simp; exact z1
   by_cases z2 : g.m.op = h.m.op
   ·have q2 : (g.m.op != h.m.op) = false := by simp; exact z2
    by_cases z3 : g.m.st = h.m.st ∧ g.m.wy = h.m.wy ∧ g.m.li = h.m.li
    ·rw [decide_eq_true z3] at E4
     by_cases z4 : g.m.sl = h.m.sl
     ·have q4 : (g.m.sl != h.m.sl) = false := by simp; exact z4
      by_cases z5 : g.m.mj = h.m.mj
      ·have q5 : (g.m.mj != h.m.mj) = false := by simp; exact z5
       by_cases z6 : g.cs.length = h.cs.length
       ·have q6 : (((g.cs.length : Nat) : Int) != ((h.cs.length : Nat) : Int)) = false := by simp; omega
        by_cases z7 : g.ws.length = h.ws.length
        ·have q7 : (((g.ws.length : Nat) : Int) != ((h.ws.length : Nat) : Int)) = false := by simp; omega
         by_cases z8 : g.ss.length = h.ss.length
         ·have q8 : (((g.ss.length : Nat) : Int) != ((h.ss.length : Nat) : Int)) = false := by simp; omega
          by_cases z9 : g.qs.length = h.qs.length
          ·have q9 : (((g.qs.length : Nat) : Int) != ((h.qs.length : Nat) : Int)) = false := by simp; omega
           exact requal_main w N N2 g h xca xwa xsa xqa yca ywa ysa yqa xcc xwc xsc xqc ycc ywc ysc yqc HL.out.1 HL.out.2.1 HL.out.2.2.1 HL.out.2.2.2.1 HL.out.2.2.2.2.1 HL.out.2.2.2.2.2.1 HL.out.2.2.2.2.2.2.1 HL.out.2.2.2.2.2.2.2 rv HV.out ⟨z0, z1, z2, z3, z4, z5, z6, z7, z8, z9⟩
          ·have q9 : (((g.qs.length : Nat) : Int) != ((h.qs.length : Nat) : Int)) = true := by simp; omega
           have HS : Hid (rv = false) := by show rv = false; rw [HV.out]; exact decide_eq_false (fun e => z9 (by rw [e]))
           have HW : Hid (Kp w w0) := HK.out.1
           clear HL HK HV z0 z1 z2 z3 z4 z5 z6 z7 z8 z9
           subst hw0
           go_enter Tryz.func16, Tryz.ntmps16
           go_wp2
           go_ret
           exact ⟨by rw [HS.out]; rfl, HW.out⟩
         ·have q8 : (((g.ss.length : Nat) : Int) != ((h.ss.length : Nat) : Int)) = true := by simp; omega
          have HS : Hid (rv = false) := by show rv = false; rw [HV.out]; exact decide_eq_false (fun e => z8 (by rw [e]))
          have HW : Hid (Kp w w0) := HK.out.1
          clear HL HK HV z0 z1 z2 z3 z4 z5 z6 z7 z8
          subst hw0
          go_enter Tryz.func16, Tryz.ntmps16
          go_wp2
          go_ret
          exact ⟨by rw [HS.out]; rfl, HW.out⟩
        ·have q7 : (((g.ws.length : Nat) : Int) != ((h.ws.length : Nat) : Int)) = true := by simp; omega
         have HS : Hid (rv = false) := by show rv = false; rw [HV.out]; exact decide_eq_false (fun e => z7 (by rw [e]))
         have HW : Hid (Kp w w0) := HK.out.1
         clear HL HK HV z0 z1 z2 z3 z4 z5 z6 z7
         subst hw0
         go_enter Tryz.func16, Tryz.ntmps16
         go_wp2
         go_ret
         exact ⟨by rw [HS.out]; rfl, HW.out⟩
       ·have q6 : (((g.cs.length : Nat) : Int) != ((h.cs.length : Nat) : Int)) = true := by simp; omega
        have HS : Hid (rv = false) := by show rv = false; rw [HV.out]; exact decide_eq_false (fun e => z6 (by rw [e]))
        have HW : Hid (Kp w w0) := HK.out.1
        clear HL HK HV z0 z1 z2 z3 z4 z5 z6
        subst hw0
        go_enter Tryz.func16, Tryz.ntmps16
        go_wp2
        go_ret
        exact ⟨by rw [HS.out]; rfl, HW.out⟩
      ·have q5 : (g.m.mj != h.m.mj) = true := by simp; exact z5
       have HS : Hid (rv = false) := by show rv = false; rw [HV.out]; exact decide_eq_false (fun e => z5 (by rw [e]))
       have HW : Hid (Kp w w0) := HK.out.1
       clear HL HK HV z0 z1 z2 z3 z4 z5
       subst hw0
       go_enter Tryz.func16, Tryz.ntmps16
       go_wp2
       go_ret
       exact ⟨by rw [HS.out]; rfl, HW.out⟩
     ·have q4 : (g.m.sl != h.m.sl) = true := by simp; exact z4
      have HS : Hid (rv = false) := by show rv = false; rw [HV.out]; exact decide_eq_false (fun e => z4 (by rw [e]))
      have HW : Hid (Kp w w0) := HK.out.1
      clear HL HK HV z0 z1 z2 z3 z4
      subst hw0
      go_enter Tryz.func16, Tryz.ntmps16
      go_wp2
      go_ret
      exact ⟨by rw [HS.out]; rfl, HW.out⟩
    ·rw [decide_eq_false z3] at E4
     have HS : Hid (rv = false) := by show rv = false; rw [HV.out]; exact decide_eq_false (fun e => z3 (by rw [e]; exact ⟨rfl, rfl, rfl⟩))
     have HW : Hid (Kp w w0) := HK.out.1
     clear HL HK HV z0 z1 z2 z3
     subst hw0
     go_enter Tryz.func16, Tryz.ntmps16
     go_wp2
     go_ret
     exact ⟨by rw [HS.out]; rfl, HW.out⟩
   ·have q2 : (g.m.op != h.m.op) = true := by simp; exact z2
    have HS : Hid (rv = false) := by show rv = false; rw [HV.out]; exact decide_eq_false (fun e => z2 (by rw [e]))
    have HW : Hid (Kp w w0) := HK.out.1
    clear HL HK HV z0 z1 z2
    subst hw0
    go_enter Tryz.func16, Tryz.ntmps16
    go_wp2
    go_ret
    exact ⟨by rw [HS.out]; rfl, HW.out⟩
  ·have q1 : (g.m.ob != h.m.ob) = true := by simp; exact z1
   have HS : Hid (rv = false) := by show rv = false; rw [HV.out]; exact decide_eq_false (fun e => z1 (by rw [e]))
   have HW : Hid (Kp w w0) := HK.out.1
   clear HL HK HV z0 z1
   subst hw0
   go_enter Tryz.func16, Tryz.ntmps16
   go_wp2
   go_ret
   exact ⟨by rw [HS.out]; rfl, HW.out⟩
 ·have q0 : (g.m.pg != h.m.pg) = true := by simp; exact z0
  have HS : Hid (rv = false) := by show rv = false; rw [HV.out]; exact decide_eq_false (fun e => z0 (by rw [e]))
  have HW : Hid (Kp w w0) := HK.out.1
  clear HL HK HV z0
  subst hw0
  go_enter Tryz.func16, Tryz.ntmps16
  go_wp2
  go_ret
  exact ⟨by rw [HS.out]; rfl, HW.out⟩
theorem requal_any (w : World) (u v : Value) (g h : Cf) (hu : IsCf w u g) (hv : IsCf w v h) : Calls Tryz.prog 16 #[u, v] w fun r w' => r = .returned (.bool (decide (g = h))) ∧ Kp w w' := by
 obtain ⟨_, xca, xcc, xwa, xwc, xsa, xsc, xqa, xqc, rfl, x1, x2, x3, x4⟩ := hu
 obtain ⟨_, yca, ycc, ywa, ywc, ysa, ysc, yqa, yqc, rfl, y1, y2, y3, y4⟩ := hv
 unfold cfV
 exact requal_walk w _ _ g h xca xwa xsa xqa yca ywa ysa yqa xcc xwc xsc xqc ycc ywc ysc yqc x1 x2 x3 x4 y1 y2 y3 y4 _ rfl
end Go.Proofs.YtknlpjcdemijgaaGreat
