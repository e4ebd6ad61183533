import Derived.Test.YtknlpjcdemijgaaGreatZk
namespace Go.Proofs.YtknlpjcdemijgaaGreat
open Go.ChangeShapes Go.WideShapes Go.ChangeAt Go.RowKit
set_option linter.unusedVariables false
theorem fields24 : Tryz.prog.underlying 24 = some (.struct (Tryz.prog.fieldsOf 24)) := by simp [Program.fieldsOf, Tryz.underlying24]
theorem stood24 : Tryz.prog.stoodInHeld 24 = false := by kernel_rfl
theorem eql24 (a b c x y z : Int) (w : World) : (binOp BinOp.eql 24 (.agg #[.int .i64 a, .int .i64 b, .int .i64 c]) (.agg #[.int .i64 x, .int .i64 y, .int .i64 z])).run Tryz.prog w = .ok (.bool (decide (a = x ∧ b = y ∧ c = z))) w := by
 rw [run_eql_struct, run_equalIn_agg w 9999 24 _ _ fields24 stood24]
 simp [Program.fieldsOf, Tryz.underlying24, go_sem]
 by_cases h1 : a = x <;> by_cases h2 : b = y <;> by_cases h3 : c = z <;> simp [h1, h2, h3]
theorem sameCf (g h : Cf) : g = h ↔ (g.m.pg = h.m.pg) ∧ (g.m.ob = h.m.ob) ∧ (g.m.op = h.m.op) ∧ (g.m.st = h.m.st ∧ g.m.wy = h.m.wy ∧ g.m.li = h.m.li) ∧ (g.m.sl = h.m.sl) ∧ (g.m.mj = h.m.mj) ∧ (g.cs = h.cs) ∧ (g.ws = h.ws) ∧ (g.ss = h.ss) ∧ (g.qs = h.qs) := by
 constructor
 ·rintro rfl; simp
 ·rintro ⟨h1, h2, h3, ⟨h4, h5, h6⟩, h7, h8, h9, h10, h11, h12⟩
  obtain ⟨m, _, _, _, _⟩ := g
  obtain ⟨n, _, _, _, _⟩ := h
  cases m; cases n
  simp_all
def Two (w : World) (B : Nat) (u v : Array Value) : Prop := w.heap[B]? = some (.cells u 31 (0, 0)) ∧ w.heap[B + 1]? = some (.cells v 31 (0, 0))
theorem Two.kp {w w' : World} {B : Nat} {u v : Array Value} (h : Two w B u v) (k : Kp w w') : Two w' B u v := ⟨k.heap h.1, k.heap h.2⟩
theorem WiAts.kp {w wi : World} {N : Nat} {la : Option Addr} {xs : List Wi} (h : RdL w N 3 WiAt la xs) (k : Kp w wi) : RdL wi N 3 WiAt la xs := h.mono fun b o y _ p => ⟨p.1.kp k, p.2⟩
theorem QuAts.kp {w wi : World} {N : Nat} {la : Option Addr} {xs : List Qu} (h : RdL w N 6 QuAt la xs) (k : Kp w wi) : RdL wi N 6 QuAt la xs := h.mono fun b o y _ p => ⟨p.1.kp k, p.2⟩
theorem CeAts.kp {w wi : World} {N : Nat} {la : Option Addr} {xs : List Ce} (h : RdL w N 4 (CeAt N) la xs) (k : Kp w wi) : RdL wi N 4 (CeAt N) la xs := h.mono fun b o y _ p => p.kp k
theorem SaAts.kp {w wi : World} {N : Nat} {la : Option Addr} {xs : List Sa} (h : RdL w N 3 (SaAt N) la xs) (k : Kp w wi) : RdL wi N 3 (SaAt N) la xs := h.mono fun b o y _ p => p.kp k

set_option maxHeartbeats 4000000 in
set_option maxRecDepth 100000 in
theorem equal_walk (w : World) (N N2 : Nat) (g h : Cf) (xca xwa xsa xqa yca ywa ysa yqa : Option Addr) (xcc xwc xsc xqc ycc ywc ysc yqc : Nat)
  (x1 : RdL w N 4 (CeAt N) xca g.cs) (x2 : RdL w N 3 WiAt xwa g.ws) (x3 : RdL w N 3 (SaAt N) xsa g.ss) (x4 : RdL w N 6 QuAt xqa g.qs)
  (y1 : RdL w N2 4 (CeAt N2) yca h.cs) (y2 : RdL w N2 3 WiAt ywa h.ws) (y3 : RdL w N2 3 (SaAt N2) ysa h.ss) (y4 : RdL w N2 6 QuAt yqa h.qs) (rv : Bool) (hrv : rv = decide (g = h)) :
  Calls Tryz.prog 13 #[.agg #[.int .i64 g.m.pg, .int .u32 g.m.ob, .int .i64 g.m.op, .int .i64 g.m.st, .int .i64 g.m.wy, .int .i64 g.m.li, .int .i64 g.m.sl, .int .u64 g.m.mj, .slice xca g.cs.length xcc, .slice xwa g.ws.length xwc, .slice xsa g.ss.length xsc, .slice xqa g.qs.length xqc], .agg #[.int .i64 h.m.pg, .int .u32 h.m.ob, .int .i64 h.m.op, .int .i64 h.m.st, .int .i64 h.m.wy, .int .i64 h.m.li, .int .i64 h.m.sl, .int .u64 h.m.mj, .slice yca h.cs.length ycc, .slice ywa h.ws.length ywc, .slice ysa h.ss.length ysc, .slice yqa h.qs.length yqc]] w fun r w' => r = .returned (.bool rv) ∧ Kp w w' := by
 obtain ⟨w0, hw0⟩ : ∃ w0, w0 = ((w.alloc (.cells #[.int .i64 g.m.pg, .int .u32 g.m.ob, .int .i64 g.m.op, .int .i64 g.m.st, .int .i64 g.m.wy, .int .i64 g.m.li, .int .i64 g.m.sl, .int .u64 g.m.mj, .slice xca g.cs.length xcc, .slice xwa g.ws.length xwc, .slice xsa g.ss.length xsc, .slice xqa g.qs.length xqc] 31)).alloc (.cells #[.int .i64 h.m.pg, .int .u32 h.m.ob, .int .i64 h.m.op, .int .i64 h.m.st, .int .i64 h.m.wy, .int .i64 h.m.li, .int .i64 h.m.sl, .int .u64 h.m.mj, .slice yca h.cs.length ycc, .slice ywa h.ws.length ywc, .slice ysa h.ss.length ysc, .slice yqa h.qs.length yqc] 31)) := ⟨_, rfl⟩
 have k0 : Kp w w0 := by rw [hw0]; exact Kp.trans (Kp.al _ _) (Kp.al _ _)
 have t0 : Two w0 w.heap.size #[.int .i64 g.m.pg, .int .u32 g.m.ob, .int .i64 g.m.op, .int .i64 g.m.st, .int .i64 g.m.wy, .int .i64 g.m.li, .int .i64 g.m.sl, .int .u64 g.m.mj, .slice xca g.cs.length xcc, .slice xwa g.ws.length xwc, .slice xsa g.ss.length xsc, .slice xqa g.qs.length xqc] #[.int .i64 h.m.pg, .int .u32 h.m.ob, .int .i64 h.m.op, .int .i64 h.m.st, .int .i64 h.m.wy, .int .i64 h.m.li, .int .i64 h.m.sl, .int .u64 h.m.mj, .slice yca h.cs.length ycc, .slice ywa h.ws.length ywc, .slice ysa h.ss.length ysc, .slice yqa h.qs.length yqc] := by
  refine ⟨by rw [hw0]; exact (Kp.al _ _).heap (heap_alloc_new w _), ?_⟩
  have := heap_alloc_new (w.alloc (.cells #[.int .i64 g.m.pg, .int .u32 g.m.ob, .int .i64 g.m.op, .int .i64 g.m.st, .int .i64 g.m.wy, .int .i64 g.m.li, .int .i64 g.m.sl, .int .u64 g.m.mj, .slice xca g.cs.length xcc, .slice xwa g.ws.length xwc, .slice xsa g.ss.length xsc, .slice xqa g.qs.length xqc] 31)) (.cells #[.int .i64 h.m.pg, .int .u32 h.m.ob, .int .i64 h.m.op, .int .i64 h.m.st, .int .i64 h.m.wy, .int .i64 h.m.li, .int .i64 h.m.sl, .int .u64 h.m.mj, .slice yca h.cs.length ycc, .slice ywa h.ws.length ywc, .slice ysa h.ss.length ysc, .slice yqa h.qs.length yqc] 31)
  rw [hw0]
  simpa using this
 have B1 : Calls Tryz.prog 33 #[.slice xca g.cs.length xcc, .slice yca h.cs.length ycc, .func (.func 34) #[] #[]] w0 fun r w' => r = .returned (.bool (decide (g.cs = h.cs))) ∧ Kp w0 w' := eq33_any w0 N N2 xca yca xcc ycc g.cs h.cs (CeAts.kp x1 k0) (CeAts.kp y1 k0)
 have B2 : ∀ wz, Kp w0 wz → Calls Tryz.prog 35 #[.slice xwa g.ws.length xwc, .slice ywa h.ws.length ywc] wz fun r w' => r = .returned (.bool (decide (g.ws = h.ws))) ∧ Kp wz w' := fun wz kz => eq35_any wz N N2 xwa ywa xwc ywc g.ws h.ws (WiAts.kp x2 (Kp.trans k0 kz)) (WiAts.kp y2 (Kp.trans k0 kz))
 have B3 : ∀ wz, Kp w0 wz → Calls Tryz.prog 36 #[.slice xsa g.ss.length xsc, .slice ysa h.ss.length ysc, .func (.func 37) #[] #[]] wz fun r w' => r = .returned (.bool (decide (g.ss = h.ss))) ∧ Kp wz w' := fun wz kz => eq36_any wz N N2 xsa ysa xsc ysc g.ss h.ss (SaAts.kp x3 (Kp.trans k0 kz)) (SaAts.kp y3 (Kp.trans k0 kz))
 have B4 : ∀ wz, Kp w0 wz → Calls Tryz.prog 38 #[.slice xqa g.qs.length xqc, .slice yqa h.qs.length yqc] wz fun r w' => r = .returned (.bool (decide (g.qs = h.qs))) ∧ Kp wz w' := fun wz kz => eq38_any wz N N2 xqa yqa xqc yqc g.qs h.qs (QuAts.kp x4 (Kp.trans k0 kz)) (QuAts.kp y4 (Kp.trans k0 kz))
 have HK : Hid (Kp w w0 ∧ Two w0 w.heap.size #[.int .i64 g.m.pg, .int .u32 g.m.ob, .int .i64 g.m.op, .int .i64 g.m.st, .int .i64 g.m.wy, .int .i64 g.m.li, .int .i64 g.m.sl, .int .u64 g.m.mj, .slice xca g.cs.length xcc, .slice xwa g.ws.length xwc, .slice xsa g.ss.length xsc, .slice xqa g.qs.length xqc] #[.int .i64 h.m.pg, .int .u32 h.m.ob, .int .i64 h.m.op, .int .i64 h.m.st, .int .i64 h.m.wy, .int .i64 h.m.li, .int .i64 h.m.sl, .int .u64 h.m.mj, .slice yca h.cs.length ycc, .slice ywa h.ws.length ywc, .slice ysa h.ss.length ysc, .slice yqa h.qs.length yqc]) := ⟨k0, t0⟩
 have HB : Hid ((∀ wz, Kp w0 wz → Calls Tryz.prog 35 #[.slice xwa g.ws.length xwc, .slice ywa h.ws.length ywc] wz fun r w' => r = .returned (.bool (decide (g.ws = h.ws))) ∧ Kp wz w') ∧ (∀ wz, Kp w0 wz → Calls Tryz.prog 36 #[.slice xsa g.ss.length xsc, .slice ysa h.ss.length ysc, .func (.func 37) #[] #[]] wz fun r w' => r = .returned (.bool (decide (g.ss = h.ss))) ∧ Kp wz w') ∧ (∀ wz, Kp w0 wz → Calls Tryz.prog 38 #[.slice xqa g.qs.length xqc, .slice yqa h.qs.length yqc] wz fun r w' => r = .returned (.bool (decide (g.qs = h.qs))) ∧ Kp wz w')) := ⟨B2,B3,B4⟩
 have HV : Hid (rv = decide (g = h)) := hrv
 have E4 := fun W => eql24 g.m.st g.m.wy g.m.li h.m.st h.m.wy h.m.li W
 clear x1 x2 x3 x4 y1 y2 y3 y4 k0 t0 B2 B3 B4 hrv
 by_cases z0 : g.m.pg = h.m.pg
 ·by_cases z1 : g.m.ob = h.m.ob
  ·by_cases z2 : g.m.op = h.m.op
   ·by_cases z3 : g.m.st = h.m.st ∧ g.m.wy = h.m.wy ∧ g.m.li = h.m.li
    ·by_cases z4 : g.m.sl = h.m.sl
     ·by_cases z5 : g.m.mj = h.m.mj
      ·by_cases z6 : g.cs = h.cs
       ·by_cases z7 : g.ws = h.ws
        ·by_cases z8 : g.ss = h.ss
         ·by_cases z9 : g.qs = h.qs
          ·have HS : Hid (rv = true) := by show rv = true; rw [HV.out]; exact decide_eq_true ((sameCf g h).2 ⟨z0, z1, z2, z3, z4, z5, z6, z7, z8, z9⟩)
           have q0 : (g.m.pg == h.m.pg) = true := by simpa using z0
           have q1 : (g.m.ob == h.m.ob) = true := by simpa using z1
           have q2 : (g.m.op == h.m.op) = true := by simpa using z2
           rw [decide_eq_true z3] at E4
           have q4 : (g.m.sl == h.m.sl) = true := by simpa using z4
           have q5 : (g.m.mj == h.m.mj) = true := by simpa using z5
           rw [decide_eq_true z6] at B1
           have d7 := decide_eq_true z7
           have d8 := decide_eq_true z8
           have d9 := decide_eq_true z9
           clear z0 z1 z2 z3 z4 z5 z6 z7 z8 z9
           have HKw : Hid (Kp w w0) := HK.out.1
           subst hw0
           go_enter Tryz.func13, Tryz.ntmps13
           go_wp2_with fail
           go_at_call 33
           refine B1.mono ?_
           rintro e w6 ⟨rfl, k6⟩
           have n6 : Hid (Kp _ w6) := k6
           clear B1 k6
           have T := HK.out.2.kp n6.out
           have s9 : w6.cell? ⟨w.heap.size, 9, none⟩ = some (.slice xwa g.ws.length xwc) := by simp [World.cell?, T.1]
           have t9 : w6.cell? ⟨w.heap.size + 1, 9, none⟩ = some (.slice ywa h.ws.length ywc) := by simp [World.cell?, T.2]
           have C7 := HB.out.1 w6 n6.out
           rw [d7] at C7
           clear T
           go_wp2_with fail
           go_at_call 35
           refine C7.mono ?_
           rintro e w7 ⟨rfl, k7⟩
           have n7 : Hid (Kp _ w7) := Kp.trans n6.out k7
           clear C7 k7
           have T := HK.out.2.kp n7.out
           have s10 : w7.cell? ⟨w.heap.size, 10, none⟩ = some (.slice xsa g.ss.length xsc) := by simp [World.cell?, T.1]
           have t10 : w7.cell? ⟨w.heap.size + 1, 10, none⟩ = some (.slice ysa h.ss.length ysc) := by simp [World.cell?, T.2]
           have C8 := HB.out.2.1 w7 n7.out
           rw [d8] at C8
           clear T
           go_wp2_with fail
           go_at_call 36
           refine C8.mono ?_
           rintro e w8 ⟨rfl, k8⟩
           have n8 : Hid (Kp _ w8) := Kp.trans n7.out k8
           clear C8 k8
           have T := HK.out.2.kp n8.out
           have s11 : w8.cell? ⟨w.heap.size, 11, none⟩ = some (.slice xqa g.qs.length xqc) := by simp [World.cell?, T.1]
           have t11 : w8.cell? ⟨w.heap.size + 1, 11, none⟩ = some (.slice yqa h.qs.length yqc) := by simp [World.cell?, T.2]
           have C9 := HB.out.2.2 w8 n8.out
           rw [d9] at C9
           clear T
           go_wp2_with fail
           go_at_call 38
           refine C9.mono ?_
           rintro e w9 ⟨rfl, k9⟩
           have n9 : Hid (Kp _ w9) := Kp.trans n8.out k9
           clear C9 k9
           go_wp2
           go_ret
           exact ⟨by rw [HS.out]; rfl, Kp.trans HKw.out n9.out⟩
          ·have HS : Hid (rv = false) := by show rv = false; rw [HV.out]; exact decide_eq_false (fun e => z9 (((sameCf g h).1 e).2.2.2.2.2.2.2.2.2))
           have q0 : (g.m.pg == h.m.pg) = true := by simpa using z0
           have q1 : (g.m.ob == h.m.ob) = true := by simpa using z1
           have q2 : (g.m.op == h.m.op) = true := by simpa using z2
           rw [decide_eq_true z3] at E4
           have q4 : (g.m.sl == h.m.sl) = true := by simpa using z4
           have q5 : (g.m.mj == h.m.mj) = true := by simpa using z5
           rw [decide_eq_true z6] at B1
           have d7 := decide_eq_true z7
           have d8 := decide_eq_true z8
           have d9 := decide_eq_false z9
           clear z0 z1 z2 z3 z4 z5 z6 z7 z8 z9
           have HKw : Hid (Kp w w0) := HK.out.1
           subst hw0
           go_enter Tryz.func13, Tryz.ntmps13
           go_wp2_with fail
           go_at_call 33
           refine B1.mono ?_
           rintro e w6 ⟨rfl, k6⟩
           have n6 : Hid (Kp _ w6) := k6
           clear B1 k6
           have T := HK.out.2.kp n6.out
           have s9 : w6.cell? ⟨w.heap.size, 9, none⟩ = some (.slice xwa g.ws.length xwc) := by simp [World.cell?, T.1]
           have t9 : w6.cell? ⟨w.heap.size + 1, 9, none⟩ = some (.slice ywa h.ws.length ywc) := by simp [World.cell?, T.2]
           have C7 := HB.out.1 w6 n6.out
           rw [d7] at C7
           clear T
           go_wp2_with fail
           go_at_call 35
           refine C7.mono ?_
           rintro e w7 ⟨rfl, k7⟩
           have n7 : Hid (Kp _ w7) := Kp.trans n6.out k7
           clear C7 k7
           have T := HK.out.2.kp n7.out
           have s10 : w7.cell? ⟨w.heap.size, 10, none⟩ = some (.slice xsa g.ss.length xsc) := by simp [World.cell?, T.1]
           have t10 : w7.cell? ⟨w.heap.size + 1, 10, none⟩ = some (.slice ysa h.ss.length ysc) := by simp [World.cell?, T.2]
           have C8 := HB.out.2.1 w7 n7.out
           rw [d8] at C8
           clear T
           go_wp2_with fail
           go_at_call 36
           refine C8.mono ?_
           rintro e w8 ⟨rfl, k8⟩
           have n8 : Hid (Kp _ w8) := Kp.trans n7.out k8
           clear C8 k8
           have T := HK.out.2.kp n8.out
           have s11 : w8.cell? ⟨w.heap.size, 11, none⟩ = some (.slice xqa g.qs.length xqc) := by simp [World.cell?, T.1]
           have t11 : w8.cell? ⟨w.heap.size + 1, 11, none⟩ = some (.slice yqa h.qs.length yqc) := by simp [World.cell?, T.2]
           have C9 := HB.out.2.2 w8 n8.out
           rw [d9] at C9
           clear T
           go_wp2_with fail
           go_at_call 38
           refine C9.mono ?_
           rintro e w9 ⟨rfl, k9⟩
           have n9 : Hid (Kp _ w9) := Kp.trans n8.out k9
           clear C9 k9
           go_wp2
           go_ret
           exact ⟨by rw [HS.out]; rfl, Kp.trans HKw.out n9.out⟩
         ·have HS : Hid (rv = false) := by show rv = false; rw [HV.out]; exact decide_eq_false (fun e => z8 (((sameCf g h).1 e).2.2.2.2.2.2.2.2.1))
          have q0 : (g.m.pg == h.m.pg) = true := by simpa using z0
          have q1 : (g.m.ob == h.m.ob) = true := by simpa using z1
          have q2 : (g.m.op == h.m.op) = true := by simpa using z2
          rw [decide_eq_true z3] at E4
          have q4 : (g.m.sl == h.m.sl) = true := by simpa using z4
          have q5 : (g.m.mj == h.m.mj) = true := by simpa using z5
          rw [decide_eq_true z6] at B1
          have d7 := decide_eq_true z7
          have d8 := decide_eq_false z8
          clear z0 z1 z2 z3 z4 z5 z6 z7 z8
          have HKw : Hid (Kp w w0) := HK.out.1
          subst hw0
          go_enter Tryz.func13, Tryz.ntmps13
          go_wp2_with fail
          go_at_call 33
          refine B1.mono ?_
          rintro e w6 ⟨rfl, k6⟩
          have n6 : Hid (Kp _ w6) := k6
          clear B1 k6
          have T := HK.out.2.kp n6.out
          have s9 : w6.cell? ⟨w.heap.size, 9, none⟩ = some (.slice xwa g.ws.length xwc) := by simp [World.cell?, T.1]
          have t9 : w6.cell? ⟨w.heap.size + 1, 9, none⟩ = some (.slice ywa h.ws.length ywc) := by simp [World.cell?, T.2]
          have C7 := HB.out.1 w6 n6.out
          rw [d7] at C7
          clear T
          go_wp2_with fail
          go_at_call 35
          refine C7.mono ?_
          rintro e w7 ⟨rfl, k7⟩
          have n7 : Hid (Kp _ w7) := Kp.trans n6.out k7
          clear C7 k7
          have T := HK.out.2.kp n7.out
          have s10 : w7.cell? ⟨w.heap.size, 10, none⟩ = some (.slice xsa g.ss.length xsc) := by simp [World.cell?, T.1]
          have t10 : w7.cell? ⟨w.heap.size + 1, 10, none⟩ = some (.slice ysa h.ss.length ysc) := by simp [World.cell?, T.2]
          have C8 := HB.out.2.1 w7 n7.out
          rw [d8] at C8
          clear T
          go_wp2_with fail
          go_at_call 36
          refine C8.mono ?_
          rintro e w8 ⟨rfl, k8⟩
          have n8 : Hid (Kp _ w8) := Kp.trans n7.out k8
          clear C8 k8
          go_wp2
          go_ret
          exact ⟨by rw [HS.out]; rfl, Kp.trans HKw.out n8.out⟩
        ·have HS : Hid (rv = false) := by show rv = false; rw [HV.out]; exact decide_eq_false (fun e => z7 (((sameCf g h).1 e).2.2.2.2.2.2.2.1))
         have q0 : (g.m.pg == h.m.pg) = true := by simpa using z0
         have q1 : (g.m.ob == h.m.ob) = true := by simpa using z1
         have q2 : (g.m.op == h.m.op) = true := by simpa using z2
         rw [decide_eq_true z3] at E4
         have q4 : (g.m.sl == h.m.sl) = true := by simpa using z4
         have q5 : (g.m.mj == h.m.mj) = true := by simpa using z5
         rw [decide_eq_true z6] at B1
         have d7 := decide_eq_false z7
         clear z0 z1 z2 z3 z4 z5 z6 z7
         have HKw : Hid (Kp w w0) := HK.out.1
         subst hw0
         go_enter Tryz.func13, Tryz.ntmps13
         go_wp2_with fail
         go_at_call 33
         refine B1.mono ?_
         rintro e w6 ⟨rfl, k6⟩
         have n6 : Hid (Kp _ w6) := k6
         clear B1 k6
         have T := HK.out.2.kp n6.out
         have s9 : w6.cell? ⟨w.heap.size, 9, none⟩ = some (.slice xwa g.ws.length xwc) := by simp [World.cell?, T.1]
         have t9 : w6.cell? ⟨w.heap.size + 1, 9, none⟩ = some (.slice ywa h.ws.length ywc) := by simp [World.cell?, T.2]
         have C7 := HB.out.1 w6 n6.out
         rw [d7] at C7
         clear T
         go_wp2_with fail
         go_at_call 35
         refine C7.mono ?_
         rintro e w7 ⟨rfl, k7⟩
         have n7 : Hid (Kp _ w7) := Kp.trans n6.out k7
         clear C7 k7
         go_wp2
         go_ret
         exact ⟨by rw [HS.out]; rfl, Kp.trans HKw.out n7.out⟩
       ·have HS : Hid (rv = false) := by show rv = false; rw [HV.out]; exact decide_eq_false (fun e => z6 (((sameCf g h).1 e).2.2.2.2.2.2.1))
        have q0 : (g.m.pg == h.m.pg) = true := by simpa using z0
        have q1 : (g.m.ob == h.m.ob) = true := by simpa using z1
        have q2 : (g.m.op == h.m.op) = true := by simpa using z2
        rw [decide_eq_true z3] at E4
        have q4 : (g.m.sl == h.m.sl) = true := by simpa using z4
        have q5 : (g.m.mj == h.m.mj) = true := by simpa using z5
        rw [decide_eq_false z6] at B1
        clear z0 z1 z2 z3 z4 z5 z6
        have HKw : Hid (Kp w w0) := HK.out.1
        subst hw0
        go_enter Tryz.func13, Tryz.ntmps13
        go_wp2_with fail
        go_at_call 33
        refine B1.mono ?_
        rintro e w6 ⟨rfl, k6⟩
        have n6 : Hid (Kp _ w6) := k6
        clear B1 k6
        go_wp2
        go_ret
        exact ⟨by rw [HS.out]; rfl, Kp.trans HKw.out n6.out⟩
      ·have HS : Hid (rv = false) := by show rv = false; rw [HV.out]; exact decide_eq_false (fun e => z5 (((sameCf g h).1 e).2.2.2.2.2.1))
       have q0 : (g.m.pg == h.m.pg) = true := by simpa using z0
       have q1 : (g.m.ob == h.m.ob) = true := by simpa using z1
       have q2 : (g.m.op == h.m.op) = true := by simpa using z2
       rw [decide_eq_true z3] at E4
       have q4 : (g.m.sl == h.m.sl) = true := by simpa using z4
       have q5 : (g.m.mj == h.m.mj) = false := by simpa using z5
       clear B1
       clear z0 z1 z2 z3 z4 z5
       have HKw : Hid (Kp w w0) := HK.out.1
       subst hw0
       go_enter Tryz.func13, Tryz.ntmps13
       go_wp2
       go_ret
       exact ⟨by rw [HS.out]; rfl, HKw.out⟩
     ·have HS : Hid (rv = false) := by show rv = false; rw [HV.out]; exact decide_eq_false (fun e => z4 (((sameCf g h).1 e).2.2.2.2.1))
      have q0 : (g.m.pg == h.m.pg) = true := by simpa using z0
      have q1 : (g.m.ob == h.m.ob) = true := by simpa using z1
      have q2 : (g.m.op == h.m.op) = true := by simpa using z2
      rw [decide_eq_true z3] at E4
      have q4 : (g.m.sl == h.m.sl) = false := by simpa using z4
      clear B1
      clear z0 z1 z2 z3 z4
      have HKw : Hid (Kp w w0) := HK.out.1
      subst hw0
      go_enter Tryz.func13, Tryz.ntmps13
      go_wp2
      go_ret
      exact ⟨by rw [HS.out]; rfl, HKw.out⟩
    ·have HS : Hid (rv = false) := by show rv = false; rw [HV.out]; exact decide_eq_false (fun e => z3 (((sameCf g h).1 e).2.2.2.1))
     have q0 : (g.m.pg == h.m.pg) = true := by simpa using z0
     have q1 : (g.m.ob == h.m.ob) = true := by simpa using z1
     have q2 : (g.m.op == h.m.op) = true := by simpa using z2
     rw [decide_eq_false z3] at E4
     clear B1
     clear z0 z1 z2 z3
     have HKw : Hid (Kp w w0) := HK.out.1
     subst hw0
     go_enter Tryz.func13, Tryz.ntmps13
     go_wp2
     go_ret
     exact ⟨by rw [HS.out]; rfl, HKw.out⟩
   ·have HS : Hid (rv = false) := by show rv = false; rw [HV.out]; exact decide_eq_false (fun e => z2 (((sameCf g h).1 e).2.2.1))
    have q0 : (g.m.pg == h.m.pg) = true := by simpa using z0
    have q1 : (g.m.ob == h.m.ob) = true := by simpa using z1
    have q2 : (g.m.op == h.m.op) = false := by simpa using z2
    clear B1
    clear z0 z1 z2
    have HKw : Hid (Kp w w0) := HK.out.1
    subst hw0
    go_enter Tryz.func13, Tryz.ntmps13
    go_wp2
    go_ret
    exact ⟨by rw [HS.out]; rfl, HKw.out⟩
  ·have HS : Hid (rv = false) := by show rv = false; rw [HV.out]; exact decide_eq_false (fun e => z1 (((sameCf g h).1 e).2.1))
   have q0 : (g.m.pg == h.m.pg) = true := by simpa using z0
   have q1 : (g.m.ob == h.m.ob) = false := by simpa using z1
   clear B1
   clear z0 z1
   have HKw : Hid (Kp w w0) := HK.out.1
   subst hw0
   go_enter Tryz.func13, Tryz.ntmps13
   go_wp2
   go_ret
   exact ⟨by rw [HS.out]; rfl, HKw.out⟩
 ·have HS : Hid (rv = false) := by show rv = false; rw [HV.out]; exact decide_eq_false (fun e => z0 (((sameCf g h).1 e).1))
  have q0 : (g.m.pg == h.m.pg) = false := by simpa using z0
  clear B1
  clear z0
  have HKw : Hid (Kp w w0) := HK.out.1
  subst hw0
  go_enter Tryz.func13, Tryz.ntmps13
  go_wp2
  go_ret
  exact ⟨by rw [HS.out]; rfl, HKw.out⟩
end Go.Proofs.YtknlpjcdemijgaaGreat
