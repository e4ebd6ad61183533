import Derived.Test.YtknlpjcdemijgaaGreatRd2
namespace Go.Proofs.YtknlpjcdemijgaaGreat
open Go.ChangeShapes Go.WideShapes Go.ChangeAt Go.RowKit
set_option linter.unusedVariables false
theorem neq24 (a b c x y z : Int) (w : World) : (binOp BinOp.neq 24 (.agg #[.int .i64 a, .int .i64 b, .int .i64 c]) (.agg #[.int .i64 x, .int .i64 y, .int .i64 z])).run Tryz.prog w = .ok (.bool (!decide (a = x ∧ b = y ∧ c = z))) w := by
 rw [run_neq_struct, run_equalIn_agg w 9999 24 _ _ fields24 stood24]
 simp [Program.fieldsOf, Tryz.underlying24, go_sem]
 by_cases h0 : a = x <;> by_cases h1 : b = y <;> by_cases h2 : c = z <;> simp [h0, h1, h2]
set_option maxHeartbeats 16000000 in
set_option maxRecDepth 100000 in
theorem requal_main (w : World) (N N2 : Nat) (g h : Cf) (xca xwa xsa xqa yca ywa ysa yqa : Option Addr) (xcc xwc xsc xqc ycc ywc ysc yqc : Nat)
  (x1 : RdL w N 4 (CeAt N) xca g.cs) (x2 : RdL w N 3 WiAt xwa g.ws) (x3 : RdL w N 3 (SaAt N) xsa g.ss) (x4 : RdL w N 6 QuAt xqa g.qs)
  (y1 : RdL w N2 4 (CeAt N2) yca h.cs) (y2 : RdL w N2 3 WiAt ywa h.ws) (y3 : RdL w N2 3 (SaAt N2) ysa h.ss) (y4 : RdL w N2 6 QuAt yqa h.qs) (rv : Bool) (hrv : rv = decide (g = h)) (HZ : Hid ((g.m.pg = h.m.pg) ∧ (g.m.ob = h.m.ob) ∧ (g.m.op = h.m.op) ∧ (g.m.st = h.m.st ∧ g.m.wy = h.m.wy ∧ g.m.li = h.m.li) ∧ (g.m.sl = h.m.sl) ∧ (g.m.mj = h.m.mj) ∧ g.cs.length = h.cs.length ∧ g.ws.length = h.ws.length ∧ g.ss.length = h.ss.length ∧ g.qs.length = h.qs.length)) :
  Calls Tryz.prog 16 #[.agg #[.int .i64 g.m.pg, .int .u32 g.m.ob, .int .i64 g.m.op, .int .i64 g.m.st, .int .i64 g.m.wy, .int .i64 g.m.li, .int .i64 g.m.sl, .int .u64 g.m.mj, .slice xca g.cs.length xcc, .slice xwa g.ws.length xwc, .slice xsa g.ss.length xsc, .slice xqa g.qs.length xqc], .agg #[.int .i64 h.m.pg, .int .u32 h.m.ob, .int .i64 h.m.op, .int .i64 h.m.st, .int .i64 h.m.wy, .int .i64 h.m.li, .int .i64 h.m.sl, .int .u64 h.m.mj, .slice yca h.cs.length ycc, .slice ywa h.ws.length ywc, .slice ysa h.ss.length ysc, .slice yqa h.qs.length yqc]] w fun r w' => r = .returned (.bool rv) ∧ Kp w w' := by
 obtain ⟨w0, hw0⟩ : ∃ w0, w0 = (w.alloc (.cells #[.int .i64 g.m.pg, .int .u32 g.m.ob, .int .i64 g.m.op, .int .i64 g.m.st, .int .i64 g.m.wy, .int .i64 g.m.li, .int .i64 g.m.sl, .int .u64 g.m.mj, .slice xca g.cs.length xcc, .slice xwa g.ws.length xwc, .slice xsa g.ss.length xsc, .slice xqa g.qs.length xqc] 31)).alloc (.cells #[.int .i64 h.m.pg, .int .u32 h.m.ob, .int .i64 h.m.op, .int .i64 h.m.st, .int .i64 h.m.wy, .int .i64 h.m.li, .int .i64 h.m.sl, .int .u64 h.m.mj, .slice yca h.cs.length ycc, .slice ywa h.ws.length ywc, .slice ysa h.ss.length ysc, .slice yqa h.qs.length yqc] 31) := ⟨_, rfl⟩
 have k0 : Kp w w0 := by rw [hw0]; exact Kp.trans (Kp.al _ _) (Kp.al _ _)
 have t0 : Two w0 w.heap.size #[.int .i64 g.m.pg, .int .u32 g.m.ob, .int .i64 g.m.op, .int .i64 g.m.st, .int .i64 g.m.wy, .int .i64 g.m.li, .int .i64 g.m.sl, .int .u64 g.m.mj, .slice xca g.cs.length xcc, .slice xwa g.ws.length xwc, .slice xsa g.ss.length xsc, .slice xqa g.qs.length xqc] #[.int .i64 h.m.pg, .int .u32 h.m.ob, .int .i64 h.m.op, .int .i64 h.m.st, .int .i64 h.m.wy, .int .i64 h.m.li, .int .i64 h.m.sl, .int .u64 h.m.mj, .slice yca h.cs.length ycc, .slice ywa h.ws.length ywc, .slice ysa h.ss.length ysc, .slice yqa h.qs.length yqc] := by
  refine ⟨by rw [hw0]; exact (Kp.al _ _).heap (heap_alloc_new w _), ?_⟩
  have := heap_alloc_new (w.alloc (.cells #[.int .i64 g.m.pg, .int .u32 g.m.ob, .int .i64 g.m.op, .int .i64 g.m.st, .int .i64 g.m.wy, .int .i64 g.m.li, .int .i64 g.m.sl, .int .u64 g.m.mj, .slice xca g.cs.length xcc, .slice xwa g.ws.length xwc, .slice xsa g.ss.length xsc, .slice xqa g.qs.length xqc] 31)) (.cells #[.int .i64 h.m.pg, .int .u32 h.m.ob, .int .i64 h.m.op, .int .i64 h.m.st, .int .i64 h.m.wy, .int .i64 h.m.li, .int .i64 h.m.sl, .int .u64 h.m.mj, .slice yca h.cs.length ycc, .slice ywa h.ws.length ywc, .slice ysa h.ss.length ysc, .slice yqa h.qs.length yqc] 31)
  rw [hw0]
  simpa using this
 have HL : Hid (RdL w N 4 (CeAt N) xca g.cs ∧ RdL w N 3 WiAt xwa g.ws ∧ RdL w N 3 (SaAt N) xsa g.ss ∧ RdL w N 6 QuAt xqa g.qs ∧ RdL w N2 4 (CeAt N2) yca h.cs ∧ RdL w N2 3 WiAt ywa h.ws ∧ RdL w N2 3 (SaAt N2) ysa h.ss ∧ RdL w N2 6 QuAt yqa h.qs) := ⟨x1, x2, x3, x4, y1, y2, y3, y4⟩
 have HK : Hid (Kp w w0 ∧ Two w0 w.heap.size #[.int .i64 g.m.pg, .int .u32 g.m.ob, .int .i64 g.m.op, .int .i64 g.m.st, .int .i64 g.m.wy, .int .i64 g.m.li, .int .i64 g.m.sl, .int .u64 g.m.mj, .slice xca g.cs.length xcc, .slice xwa g.ws.length xwc, .slice xsa g.ss.length xsc, .slice xqa g.qs.length xqc] #[.int .i64 h.m.pg, .int .u32 h.m.ob, .int .i64 h.m.op, .int .i64 h.m.st, .int .i64 h.m.wy, .int .i64 h.m.li, .int .i64 h.m.sl, .int .u64 h.m.mj, .slice yca h.cs.length ycc, .slice ywa h.ws.length ywc, .slice ysa h.ss.length ysc, .slice yqa h.qs.length yqc]) := ⟨k0, t0⟩
 have HV : Hid (rv = decide (g = h)) := hrv
 have E4 := fun W => neq24 g.m.st g.m.wy g.m.li h.m.st h.m.wy h.m.li W
 have b1 := x1.1
 have b2 := x2.1
 have b3 := x3.1
 have b4 := x4.1
 have d1 := y1.1
 have d2 := y2.1
 have d3 := y3.1
 have d4 := y4.1
 have s0 : w0.cell? ⟨w.heap.size, 0, none⟩ = some (.int .i64 g.m.pg) := (cells_at t0.1 0).1
 have r0 : w0.cell? ⟨w.heap.size + 1, 0, none⟩ = some (.int .i64 h.m.pg) := (cells_at t0.2 0).1
 have s1 : w0.cell? ⟨w.heap.size, 1, none⟩ = some (.int .u32 g.m.ob) := (cells_at t0.1 1).1
 have r1 : w0.cell? ⟨w.heap.size + 1, 1, none⟩ = some (.int .u32 h.m.ob) := (cells_at t0.2 1).1
 have s2 : w0.cell? ⟨w.heap.size, 2, none⟩ = some (.int .i64 g.m.op) := (cells_at t0.1 2).1
 have r2 : w0.cell? ⟨w.heap.size + 1, 2, none⟩ = some (.int .i64 h.m.op) := (cells_at t0.2 2).1
 have s3 : w0.cell? ⟨w.heap.size, 3, none⟩ = some (.int .i64 g.m.st) := (cells_at t0.1 3).1
 have r3 : w0.cell? ⟨w.heap.size + 1, 3, none⟩ = some (.int .i64 h.m.st) := (cells_at t0.2 3).1
 have s4 : w0.cell? ⟨w.heap.size, 4, none⟩ = some (.int .i64 g.m.wy) := (cells_at t0.1 4).1
 have r4 : w0.cell? ⟨w.heap.size + 1, 4, none⟩ = some (.int .i64 h.m.wy) := (cells_at t0.2 4).1
 have s5 : w0.cell? ⟨w.heap.size, 5, none⟩ = some (.int .i64 g.m.li) := (cells_at t0.1 5).1
 have r5 : w0.cell? ⟨w.heap.size + 1, 5, none⟩ = some (.int .i64 h.m.li) := (cells_at t0.2 5).1
 have s6 : w0.cell? ⟨w.heap.size, 6, none⟩ = some (.int .i64 g.m.sl) := (cells_at t0.1 6).1
 have r6 : w0.cell? ⟨w.heap.size + 1, 6, none⟩ = some (.int .i64 h.m.sl) := (cells_at t0.2 6).1
 have s7 : w0.cell? ⟨w.heap.size, 7, none⟩ = some (.int .u64 g.m.mj) := (cells_at t0.1 7).1
 have r7 : w0.cell? ⟨w.heap.size + 1, 7, none⟩ = some (.int .u64 h.m.mj) := (cells_at t0.2 7).1
 have s8 : w0.cell? ⟨w.heap.size, 8, none⟩ = some (.slice xca g.cs.length xcc) := (cells_at t0.1 8).1
 have r8 : w0.cell? ⟨w.heap.size + 1, 8, none⟩ = some (.slice yca h.cs.length ycc) := (cells_at t0.2 8).1
 have s9 : w0.cell? ⟨w.heap.size, 9, none⟩ = some (.slice xwa g.ws.length xwc) := (cells_at t0.1 9).1
 have r9 : w0.cell? ⟨w.heap.size + 1, 9, none⟩ = some (.slice ywa h.ws.length ywc) := (cells_at t0.2 9).1
 have s10 : w0.cell? ⟨w.heap.size, 10, none⟩ = some (.slice xsa g.ss.length xsc) := (cells_at t0.1 10).1
 have r10 : w0.cell? ⟨w.heap.size + 1, 10, none⟩ = some (.slice ysa h.ss.length ysc) := (cells_at t0.2 10).1
 have s11 : w0.cell? ⟨w.heap.size, 11, none⟩ = some (.slice xqa g.qs.length xqc) := (cells_at t0.1 11).1
 have r11 : w0.cell? ⟨w.heap.size + 1, 11, none⟩ = some (.slice yqa h.qs.length yqc) := (cells_at t0.2 11).1
 clear x1 x2 x3 x4 y1 y2 y3 y4 k0 t0 hrv
 have q0 : (g.m.pg != h.m.pg) = false := by have := HZ.out.1; simp; exact this
 have q1 : (g.m.ob != h.m.ob) = false := by have := HZ.out.2.1; simp; exact this
 have q2 : (g.m.op != h.m.op) = false := by have := HZ.out.2.2.1; simp; exact this
 rw [decide_eq_true HZ.out.2.2.2.1] at E4
 have q4 : (g.m.sl != h.m.sl) = false := by have := HZ.out.2.2.2.2.1; simp; exact this
 have q5 : (g.m.mj != h.m.mj) = false := by have := HZ.out.2.2.2.2.2.1; simp; exact this
 have q6 : (((g.cs.length : Nat) : Int) != ((h.cs.length : Nat) : Int)) = false := by have := HZ.out.2.2.2.2.2.2.1; simp; omega
 have q7 : (((g.ws.length : Nat) : Int) != ((h.ws.length : Nat) : Int)) = false := by have := HZ.out.2.2.2.2.2.2.2.1; simp; omega
 have q8 : (((g.ss.length : Nat) : Int) != ((h.ss.length : Nat) : Int)) = false := by have := HZ.out.2.2.2.2.2.2.2.2.1; simp; omega
 have q9 : (((g.qs.length : Nat) : Int) != ((h.qs.length : Nat) : Int)) = false := by have := HZ.out.2.2.2.2.2.2.2.2.2; simp; omega
 have HK2 : Hid (Kp w w0 ∧ Two w0 w.heap.size #[.int .i64 g.m.pg, .int .u32 g.m.ob, .int .i64 g.m.op, .int .i64 g.m.st, .int .i64 g.m.wy, .int .i64 g.m.li, .int .i64 g.m.sl, .int .u64 g.m.mj, .slice xca g.cs.length xcc, .slice xwa g.ws.length xwc, .slice xsa g.ss.length xsc, .slice xqa g.qs.length xqc] #[.int .i64 h.m.pg, .int .u32 h.m.ob, .int .i64 h.m.op, .int .i64 h.m.st, .int .i64 h.m.wy, .int .i64 h.m.li, .int .i64 h.m.sl, .int .u64 h.m.mj, .slice yca h.cs.length ycc, .slice ywa h.ws.length ywc, .slice ysa h.ss.length ysc, .slice yqa h.qs.length yqc]) := HK
 clear HK
 subst hw0
 go_enter Tryz.func16, Tryz.ntmps16
 go_wp2_with fail
 have HC : Hid (g.cs.length = h.cs.length) := HZ.out.2.2.2.2.2.2.1
 clear s0 r0 s1 r1 s2 r2 s3 r3 s4 r4 s5 r5 s6 r6 s7 r7 s8 r8 s9 r9 s10 r10 s11 r11 q0 q1 q2 q4 q5 q6 q7 q8 q9 E4
 go_loopw [5] (fun s5 wr => ∃ i : Nat, s5 = .int .i64 (i : Nat) ∧ i ≤ g.cs.length ∧ Hid (g.cs.take i = h.cs.take i ∧ Kp w wr ∧ Two wr w.heap.size #[.int .i64 g.m.pg, .int .u32 g.m.ob, .int .i64 g.m.op, .int .i64 g.m.st, .int .i64 g.m.wy, .int .i64 g.m.li, .int .i64 g.m.sl, .int .u64 g.m.mj, .slice xca g.cs.length xcc, .slice xwa g.ws.length xwc, .slice xsa g.ss.length xsc, .slice xqa g.qs.length xqc] #[.int .i64 h.m.pg, .int .u32 h.m.ob, .int .i64 h.m.op, .int .i64 h.m.st, .int .i64 h.m.wy, .int .i64 h.m.li, .int .i64 h.m.sl, .int .u64 h.m.mj, .slice yca h.cs.length ycc, .slice ywa h.ws.length ywc, .slice ysa h.ss.length ysc, .slice yqa h.qs.length yqc])) (fun s5 _ => g.cs.length - (intOf s5).toNat)
 case atStart => exact ⟨0, rfl, by omega, ⟨rfl, HK2.out.1, HK2.out.2⟩⟩
 case round =>
  obtain ⟨i, rfl, hi, HT⟩ := hrel
  have s8 : wr.cell? ⟨w.heap.size, 8, none⟩ = some (.slice xca g.cs.length xcc) := (cells_at HT.out.2.2.1 8).1
  have r8 : wr.cell? ⟨w.heap.size + 1, 8, none⟩ = some (.slice yca h.cs.length ycc) := (cells_at HT.out.2.2.2 8).1
  by_cases hlt : i < g.cs.length
  ·have hiH : i < h.cs.length := by have := HC.out; omega
   obtain ⟨bx, ox, rfl, hbx, hcx⟩ := (CeAts.kp HL.out.1 HT.out.2.1).2.resolve_left (by omega)
   obtain ⟨by_, oy, rfl, hby, hcy⟩ := (CeAts.kp HL.out.2.2.2.2.1 HT.out.2.1).2.resolve_left (by omega)
   have hx := hcx i hlt
   have hy := hcy i hiH
   have gx : g.cs[i]? = some g.cs[i] := List.getElem?_eq_getElem hlt
   have gy : h.cs[i]? = some h.cs[i] := List.getElem?_eq_getElem hiH
   have tx := take_snocQ gx
   have ty := take_snocQ gy
   obtain ⟨x, hxx⟩ : ∃ x, x = g.cs[i] := ⟨_, rfl⟩
   obtain ⟨y, hyy⟩ : ∃ y, y = h.cs[i] := ⟨_, rfl⟩
   rw [← hxx] at hx gx tx
   rw [← hyy] at hy gy ty
   have HN : Hid ((x ≠ y → rv = false) ∧ g.cs.take (i + 1) = g.cs.take i ++ [x] ∧ h.cs.take (i + 1) = h.cs.take i ++ [y]) := by
    refine ⟨fun hne => ?_, tx, ty⟩
    rw [HV.out]
    refine decide_eq_false fun e => getQ_ne gx gy hne (by rw [e])
   clear hcx hcy gx gy tx ty hxx hyy hbx hby
   obtain ⟨_, _, rax, rcx, lax, lcx, ax, rx, ix⟩ := hx
   obtain ⟨_, _, ray, rcy, lay, lcy, ay, ry, iy⟩ := hy
   have a0 := ax 0 _ rfl
   have a1 := ax 1 _ rfl
   have a2 := ax 2 _ rfl
   have a3 := ax 3 _ rfl
   have b0 := ay 0 _ rfl
   have b1' := ay 1 _ rfl
   have b2' := ay 2 _ rfl
   have b3' := ay 3 _ rfl
   simp only [Nat.add_zero] at a0 b0
   obtain ⟨W1, hW1⟩ : ∃ W1,W1 = wr.alloc (.cells #[.string x.nm, .int .u32 x.e, .slice rax x.rs.length rcx, .slice lax x.ls.length lcx] 89) := ⟨_, rfl⟩
   have k1 : Kp wr W1 := by rw [hW1]; exact Kp.al _ _
   have g6 : W1.heap[wr.heap.size]? = some (.cells #[.string x.nm, .int .u32 x.e, .slice rax x.rs.length rcx, .slice lax x.ls.length lcx] 89 (0, 0)) := by rw [hW1]; exact heap_alloc_new _ _
   have z1 : W1.heap.size = wr.heap.size + 1 := by rw [hW1]; simp
   obtain ⟨W2, hW2⟩ : ∃ W2,W2 = W1.alloc (.cells #[.string y.nm, .int .u32 y.e, .slice ray y.rs.length rcy, .slice lay y.ls.length lcy] 89) := ⟨_, rfl⟩
   have k2 : Kp W1 W2 := by rw [hW2]; exact Kp.al _ _
   have g7 : W2.heap[wr.heap.size + 1]? = some (.cells #[.string y.nm, .int .u32 y.e, .slice ray y.rs.length rcy, .slice lay y.ls.length lcy] 89 (0, 0)) := by rw [hW2, ← z1]; exact heap_alloc_new _ _
   have g6' := k2.heap g6
   have A1 := ri41_any W2 N N2 lax lay lcx lcy x.ls y.ls (ix.kp (k1.trans k2)) (iy.kp (k1.trans k2))
   have r8' := k1.cell r8
   have c0 := k1.cell b0
   have c1 := k1.cell b1'
   have c2 := k1.cell b2'
   have c3 := k1.cell b3'
   have e3 : W2.cell? ⟨wr.heap.size, 3, none⟩ = some (.slice lax x.ls.length lcx) := (cells_at g6' 3).1
   have f3 : W2.cell? ⟨wr.heap.size + 1, 3, none⟩ = some (.slice lay y.ls.length lcy) := (cells_at g7 3).1
   have HP : Hid (Kp wr W2 ∧ W2.heap[wr.heap.size]? = some (.cells #[.string x.nm, .int .u32 x.e, .slice rax x.rs.length rcx, .slice lax x.ls.length lcx] 89 (0, 0)) ∧ W2.heap[wr.heap.size + 1]? = some (.cells #[.string y.nm, .int .u32 y.e, .slice ray y.rs.length rcy, .slice lay y.ls.length lcy] 89 (0, 0)) ∧ RdL wr N 4 RgAt rax x.rs ∧ RdL wr N2 4 RgAt ray y.rs) := ⟨k1.trans k2, g6', g7, rx, ry⟩
   clear k1 k2 g6 g7 g6' z1 ix iy ax ay b0 b1' b2' b3' rx ry r8
   rw [hW1] at hW2 r8' c0 c1 c2 c3
   rw [hW2] at e3 f3
   go_wp2_with fail
   rw [← hW2]
   go_at_call 41
   refine A1.mono ?_
   rintro e w3 ⟨rfl, k3⟩
   have h6 := k3.heap HP.out.2.1
   have h7 := k3.heap HP.out.2.2.1
   have u0 : w3.cell? ⟨wr.heap.size, 0, none⟩ = some (.string x.nm) := (cells_at h6 0).1
   have u1 : w3.cell? ⟨wr.heap.size, 1, none⟩ = some (.int .u32 x.e) := (cells_at h6 1).1
   have u2 : w3.cell? ⟨wr.heap.size, 2, none⟩ = some (.slice rax x.rs.length rcx) := (cells_at h6 2).1
   have v0 : w3.cell? ⟨wr.heap.size + 1, 0, none⟩ = some (.string y.nm) := (cells_at h7 0).1
   have v1 : w3.cell? ⟨wr.heap.size + 1, 1, none⟩ = some (.int .u32 y.e) := (cells_at h7 1).1
   have v2 : w3.cell? ⟨wr.heap.size + 1, 2, none⟩ = some (.slice ray y.rs.length rcy) := (cells_at h7 2).1
   have HQ : Hid (Kp w w3 ∧ Kp wr w3 ∧ w3.heap[wr.heap.size]? = some (.cells #[.string x.nm, .int .u32 x.e, .slice rax x.rs.length rcx, .slice lax x.ls.length lcx] 89 (0, 0)) ∧ w3.heap[wr.heap.size + 1]? = some (.cells #[.string y.nm, .int .u32 y.e, .slice ray y.rs.length rcy, .slice lay y.ls.length lcy] 89 (0, 0))) := ⟨(HT.out.2.1.trans HP.out.1).trans k3, HP.out.1.trans k3, h6, h7⟩
   clear A1 k3 h6 h7 hW1 hW2 e3 f3 c0 c1 c2 c3 r8' s8 a0 a1 a2 a3
   by_cases m1 : x.ls = y.ls
   ·have n1 : sameB x.ls y.ls = true := by simp [sameB, m1]
    rw [n1]
    by_cases m2 : x.nm = y.nm
    ·have n2 : x.nm.toList = y.nm.toList := by rw [m2]
     by_cases m3 : x.e = y.e
     ·by_cases m4 : x.rs.length = y.rs.length
      ·have n4 : (((x.rs.length : Nat) : Int) != ((y.rs.length : Nat) : Int)) = false := by simp; omega
       have HM : Hid (x.ls = y.ls ∧ x.nm = y.nm ∧ x.e = y.e ∧ x.rs.length = y.rs.length) := ⟨m1, m2, m3, m4⟩
       have l5 := HP.out.2.2.2.1.1
       have l6 := HP.out.2.2.2.2.1
       clear m1 m2 m4
       go_wp2_with fail
       clear u0 u1 u2 v0 v1 v2 n1 n2 n4 m3
       obtain ⟨WR, hWR⟩ : ∃ WR, WR = wr := ⟨_, rfl⟩
       rw [← hWR] at HQ HP HT ⊢
       clear hWR wr
       go_loopw [9] (fun s9 wr => ∃ j : Nat, s9 = .int .i64 (j : Nat) ∧ j ≤ x.rs.length ∧ Hid (x.rs.take j = y.rs.take j ∧ Kp w3 wr)) (fun s9 _ => x.rs.length - (intOf s9).toNat)
       case atStart => exact ⟨0, rfl, by omega, ⟨rfl, Kp.refl _⟩⟩
       case round =>
        obtain ⟨j, rfl, hj, HJ⟩ := hrel
        have h6 := HJ.out.2.heap HQ.out.2.2.1
        have h7 := HJ.out.2.heap HQ.out.2.2.2
        have u2 : wr.cell? ⟨WR.heap.size, 2, none⟩ = some (.slice rax x.rs.length rcx) := (cells_at h6 2).1
        have v2 : wr.cell? ⟨WR.heap.size + 1, 2, none⟩ = some (.slice ray y.rs.length rcy) := (cells_at h7 2).1
        by_cases hjl : j < x.rs.length
        ·have hjy : j < y.rs.length := by have := HM.out.2.2.2; omega
         obtain ⟨b5, o5, rfl, _, hc5⟩ := (RgAts.kp HP.out.2.2.2.1 (HQ.out.2.1.trans HJ.out.2)).2.resolve_left (by omega)
         obtain ⟨b6, o6, rfl, _, hc6⟩ := (RgAts.kp HP.out.2.2.2.2 (HQ.out.2.1.trans HJ.out.2)).2.resolve_left (by omega)
         have ga : x.rs[j]? = some x.rs[j] := List.getElem?_eq_getElem hjl
         have gb : y.rs[j]? = some y.rs[j] := List.getElem?_eq_getElem hjy
         have ta := take_snocQ ga
         have tb := take_snocQ gb
         have pa := (hc5 j hjl).1
         have pb := (hc6 j hjy).1
         obtain ⟨p, hp⟩ : ∃ p, p = x.rs[j] := ⟨_, rfl⟩
         obtain ⟨q, hq⟩ : ∃ q, q = y.rs[j] := ⟨_, rfl⟩
         rw [← hp] at ga ta pa
         rw [← hq] at gb tb pb
         have p0 := pa 0 _ rfl
         have p1 := pa 1 _ rfl
         have p2 := pa 2 _ rfl
         have p3 := pa 3 _ rfl
         have q0 := pb 0 _ rfl
         have q1 := pb 1 _ rfl
         have q2 := pb 2 _ rfl
         have q3 := pb 3 _ rfl
         simp only [Nat.add_zero] at p0 q0
         have NE := fun W => neq101 p q W
         have HG : Hid ((p ≠ q → rv = false) ∧ x.rs.take (j + 1) = x.rs.take j ++ [p] ∧ y.rs.take (j + 1) = y.rs.take j ++ [q]) := by
          refine ⟨fun hne => HN.out.1 (fun e => getQ_ne ga gb hne (by rw [e])), ta, tb⟩
         clear hc5 hc6 ga gb ta tb pa pb hp hq h6 h7
         by_cases hpq : p = q
         ·rw [decide_eq_true hpq] at NE
          have HS : Hid (x.rs.take (j + 1) = y.rs.take (j + 1) ∧ Kp w3 wr) := ⟨by rw [HG.out.2.1, HG.out.2.2, HJ.out.1, hpq], HJ.out.2⟩
          clear HG hpq HJ
          go_wp2_with fail
          go_quiet (fail)
          go_wp2
          go_roundw
          case rel => exact ⟨j + 1, by go_num, by omega, ⟨HS.out.1, Chg.drewN HS.out.2 _⟩⟩
          case measure => simp [intOf]; omega
         ·rw [decide_eq_false hpq] at NE
          have HS : Hid (rv = false ∧ Kp w wr) := ⟨HG.out.1 hpq, HQ.out.1.trans HJ.out.2⟩
          clear HG hpq HJ
          go_wp2_with fail
          go_quiet (fail)
          go_wp2
          go_ret
          exact ⟨by rw [HS.out.1]; rfl, Chg.drewN HS.out.2 _⟩
        ·have HS : Hid (g.cs.take (i + 1) = h.cs.take (i + 1) ∧ Kp w wr ∧ Two wr w.heap.size #[.int .i64 g.m.pg, .int .u32 g.m.ob, .int .i64 g.m.op, .int .i64 g.m.st, .int .i64 g.m.wy, .int .i64 g.m.li, .int .i64 g.m.sl, .int .u64 g.m.mj, .slice (some ⟨bx, ox, none⟩) g.cs.length xcc, .slice xwa g.ws.length xwc, .slice xsa g.ss.length xsc, .slice xqa g.qs.length xqc] #[.int .i64 h.m.pg, .int .u32 h.m.ob, .int .i64 h.m.op, .int .i64 h.m.st, .int .i64 h.m.wy, .int .i64 h.m.li, .int .i64 h.m.sl, .int .u64 h.m.mj, .slice (some ⟨by_, oy, none⟩) h.cs.length ycc, .slice ywa h.ws.length ywc, .slice ysa h.ss.length ysc, .slice yqa h.qs.length yqc]) := by
          have e5 : x.rs = y.rs := by
           have := HJ.out.1
           rw [List.take_of_length_le (by omega), List.take_of_length_le (by have := HM.out.2.2.2; omega)] at this
           exact this
          have e6 : x = y := (sameCe x y).2 ⟨HM.out.2.1, HM.out.2.2.1, e5, HM.out.1⟩
          refine ⟨by rw [HN.out.2.1, HN.out.2.2, HT.out.1, e6], HQ.out.1.trans HJ.out.2, ?_⟩
          exact HT.out.2.2.kp (HQ.out.2.1.trans HJ.out.2)
         clear h6 h7 HJ
         go_wp2
         go_roundw
         case rel => exact ⟨i + 1, by go_num, by omega, HS⟩
         case measure => simp [intOf]; omega
      ·have n4 : (((x.rs.length : Nat) : Int) != ((y.rs.length : Nat) : Int)) = true := by simp; omega
       have HX : Hid (rv = false ∧ Kp w w3) := ⟨HN.out.1 (fun e => m4 (by rw [e])), HQ.out.1⟩
       clear HN HQ HT HP HL HV HZ HC HK2
       go_wp2
       go_ret
       exact ⟨by rw [HX.out.1]; rfl, HX.out.2⟩
     ·have n3 : ¬ x.e = y.e := m3
      have HX : Hid (rv = false ∧ Kp w w3) := ⟨HN.out.1 (fun e => m3 (by rw [e])), HQ.out.1⟩
      clear HN HQ HT HP HL HV HZ HC HK2
      go_wp2
      go_ret
      exact ⟨by rw [HX.out.1]; rfl, HX.out.2⟩
    ·have n2 : ¬ x.nm.toList = y.nm.toList := fun e => m2 ((beqS _ _).1 (by simp [e]))
     have HX : Hid (rv = false ∧ Kp w w3) := ⟨HN.out.1 (fun e => m2 (by rw [e])), HQ.out.1⟩
     clear HN HQ HT HP HL HV HZ HC HK2
     go_wp2
     go_ret
     exact ⟨by rw [HX.out.1]; rfl, HX.out.2⟩
   ·have n1 : sameB x.ls y.ls = false := by simp [sameB, m1]
    rw [n1]
    have HX : Hid (rv = false ∧ Kp w w3) := ⟨HN.out.1 (fun e => m1 (by rw [e])), HQ.out.1⟩
    clear HN HQ HT HP HL HV HZ HC HK2
    go_wp2
    go_ret
    exact ⟨by rw [HX.out.1]; rfl, HX.out.2⟩
  ·have H1 : Hid (g.cs = h.cs ∧ Kp w wr ∧ Two wr w.heap.size #[.int .i64 g.m.pg, .int .u32 g.m.ob, .int .i64 g.m.op, .int .i64 g.m.st, .int .i64 g.m.wy, .int .i64 g.m.li, .int .i64 g.m.sl, .int .u64 g.m.mj, .slice xca g.cs.length xcc, .slice xwa g.ws.length xwc, .slice xsa g.ss.length xsc, .slice xqa g.qs.length xqc] #[.int .i64 h.m.pg, .int .u32 h.m.ob, .int .i64 h.m.op, .int .i64 h.m.st, .int .i64 h.m.wy, .int .i64 h.m.li, .int .i64 h.m.sl, .int .u64 h.m.mj, .slice yca h.cs.length ycc, .slice ywa h.ws.length ywc, .slice ysa h.ss.length ysc, .slice yqa h.qs.length yqc]) := by
    refine ⟨?_, HT.out.2.1, HT.out.2.2⟩
    have := HT.out.1
    rw [List.take_of_length_le (by omega), List.take_of_length_le (by have := HC.out; omega)] at this
    exact this
   clear HT HC
   go_wp2_with fail
   clear s8 r8
   have E1 : Hid (g.cs = h.cs) := H1.out.1
   have HC10 : Hid (g.ws.length = h.ws.length) := HZ.out.2.2.2.2.2.2.2.1
   obtain ⟨WR10, hWR10⟩ : ∃ WR, WR = wr := ⟨_, rfl⟩
   rw [← hWR10] at H1 ⊢
   clear hWR10 wr
   go_loopw [10] (fun s10 wr => ∃ i : Nat, s10 = .int .i64 (i : Nat) ∧ i ≤ g.ws.length ∧ Hid (g.ws.take i = h.ws.take i ∧ Kp w wr ∧ Two wr w.heap.size #[.int .i64 g.m.pg, .int .u32 g.m.ob, .int .i64 g.m.op, .int .i64 g.m.st, .int .i64 g.m.wy, .int .i64 g.m.li, .int .i64 g.m.sl, .int .u64 g.m.mj, .slice xca g.cs.length xcc, .slice xwa g.ws.length xwc, .slice xsa g.ss.length xsc, .slice xqa g.qs.length xqc] #[.int .i64 h.m.pg, .int .u32 h.m.ob, .int .i64 h.m.op, .int .i64 h.m.st, .int .i64 h.m.wy, .int .i64 h.m.li, .int .i64 h.m.sl, .int .u64 h.m.mj, .slice yca h.cs.length ycc, .slice ywa h.ws.length ywc, .slice ysa h.ss.length ysc, .slice yqa h.qs.length yqc])) (fun s10 _ => g.ws.length - (intOf s10).toNat)
   case atStart => exact ⟨0, rfl, by omega, ⟨rfl, H1.out.2.1, H1.out.2.2⟩⟩
   case round =>
    obtain ⟨i, rfl, hi, HT⟩ := hrel
    have sA : wr.cell? ⟨w.heap.size, 9, none⟩ = some (.slice xwa g.ws.length xwc) := (cells_at HT.out.2.2.1 9).1
    have rA : wr.cell? ⟨w.heap.size + 1, 9, none⟩ = some (.slice ywa h.ws.length ywc) := (cells_at HT.out.2.2.2 9).1
    by_cases hlt : i < g.ws.length
    ·have hiH : i < h.ws.length := by have := HC10.out; omega
     obtain ⟨b5, o5, e5, _, hc5⟩ := (WiAts.kp HL.out.2.1 HT.out.2.1).2.resolve_left (by omega)
     obtain ⟨b6, o6, e6, _, hc6⟩ := (WiAts.kp HL.out.2.2.2.2.2.1 HT.out.2.1).2.resolve_left (by omega)
     rw [e5] at sA
     rw [e6] at rA
     have ga : g.ws[i]? = some g.ws[i] := List.getElem?_eq_getElem hlt
     have gb : h.ws[i]? = some h.ws[i] := List.getElem?_eq_getElem hiH
     have ta := take_snocQ ga
     have tb := take_snocQ gb
     have pa := (hc5 i hlt).1
     have pb := (hc6 i hiH).1
     obtain ⟨p, hp⟩ : ∃ p, p = g.ws[i] := ⟨_, rfl⟩
     obtain ⟨q, hq⟩ : ∃ q, q = h.ws[i] := ⟨_, rfl⟩
     rw [← hp] at ga ta pa
     rw [← hq] at gb tb pb
     have p0 := pa 0 _ rfl
     have q0 := pb 0 _ rfl
     have p1 := pa 1 _ rfl
     have q1 := pb 1 _ rfl
     have p2 := pa 2 _ rfl
     have q2 := pb 2 _ rfl
     simp only [Nat.add_zero] at p0 q0
     have NE := fun W => neq65 p q W
     have HG : Hid ((p ≠ q → rv = false) ∧ g.ws.take (i + 1) = g.ws.take i ++ [p] ∧ h.ws.take (i + 1) = h.ws.take i ++ [q]) := by
      refine ⟨fun hne => ?_, ta, tb⟩
      rw [HV.out]
      exact decide_eq_false fun e => getQ_ne ga gb hne (by rw [e])
     clear hc5 hc6 ga gb ta tb pa pb hp hq e5 e6
     by_cases hpq : p = q
     ·rw [decide_eq_true hpq] at NE
      have HS : Hid (g.ws.take (i + 1) = h.ws.take (i + 1) ∧ Kp w wr ∧ Two wr w.heap.size #[.int .i64 g.m.pg, .int .u32 g.m.ob, .int .i64 g.m.op, .int .i64 g.m.st, .int .i64 g.m.wy, .int .i64 g.m.li, .int .i64 g.m.sl, .int .u64 g.m.mj, .slice xca g.cs.length xcc, .slice xwa g.ws.length xwc, .slice xsa g.ss.length xsc, .slice xqa g.qs.length xqc] #[.int .i64 h.m.pg, .int .u32 h.m.ob, .int .i64 h.m.op, .int .i64 h.m.st, .int .i64 h.m.wy, .int .i64 h.m.li, .int .i64 h.m.sl, .int .u64 h.m.mj, .slice yca h.cs.length ycc, .slice ywa h.ws.length ywc, .slice ysa h.ss.length ysc, .slice yqa h.qs.length yqc]) := ⟨by rw [HG.out.2.1, HG.out.2.2, HT.out.1, hpq], HT.out.2.1, HT.out.2.2⟩
      clear HG hpq HT
      go_wp2_with fail
      go_quiet (fail)
      go_wp2
      go_roundw
      case rel => exact ⟨i + 1, by go_num, by omega, ⟨HS.out.1, Chg.drewN HS.out.2.1 _, HS.out.2.2.kp (Kp.drewN _ _)⟩⟩
      case measure => simp [intOf]; omega
     ·rw [decide_eq_false hpq] at NE
      have HS : Hid (rv = false ∧ Kp w wr) := ⟨HG.out.1 hpq, HT.out.2.1⟩
      clear HG hpq HT
      go_wp2_with fail
      go_quiet (fail)
      go_wp2
      go_ret
      exact ⟨by rw [HS.out.1]; rfl, Chg.drewN HS.out.2 _⟩
    ·have H3 : Hid ((g.ws = h.ws) ∧ Kp w wr ∧ Two wr w.heap.size #[.int .i64 g.m.pg, .int .u32 g.m.ob, .int .i64 g.m.op, .int .i64 g.m.st, .int .i64 g.m.wy, .int .i64 g.m.li, .int .i64 g.m.sl, .int .u64 g.m.mj, .slice xca g.cs.length xcc, .slice xwa g.ws.length xwc, .slice xsa g.ss.length xsc, .slice xqa g.qs.length xqc] #[.int .i64 h.m.pg, .int .u32 h.m.ob, .int .i64 h.m.op, .int .i64 h.m.st, .int .i64 h.m.wy, .int .i64 h.m.li, .int .i64 h.m.sl, .int .u64 h.m.mj, .slice yca h.cs.length ycc, .slice ywa h.ws.length ywc, .slice ysa h.ss.length ysc, .slice yqa h.qs.length yqc]) := by
      refine ⟨?_, HT.out.2.1, HT.out.2.2⟩
      have := HT.out.1
      rw [List.take_of_length_le (by omega), List.take_of_length_le (by have := HC10.out; omega)] at this
      exact this
     have E3 : Hid (g.ws = h.ws) := H3.out.1
     clear HT
     have HC11 : Hid (g.ss.length = h.ss.length) := HZ.out.2.2.2.2.2.2.2.2.1
     go_wp2_with fail
     clear sA rA
     obtain ⟨WR11, hWR11⟩ : ∃ WR, WR = wr := ⟨_, rfl⟩
     rw [← hWR11] at H3 ⊢
     clear hWR11 wr
     go_loopw [11] (fun s11 wr => ∃ i : Nat, s11 = .int .i64 (i : Nat) ∧ i ≤ g.ss.length ∧ Hid (g.ss.take i = h.ss.take i ∧ Kp w wr ∧ Two wr w.heap.size #[.int .i64 g.m.pg, .int .u32 g.m.ob, .int .i64 g.m.op, .int .i64 g.m.st, .int .i64 g.m.wy, .int .i64 g.m.li, .int .i64 g.m.sl, .int .u64 g.m.mj, .slice xca g.cs.length xcc, .slice xwa g.ws.length xwc, .slice xsa g.ss.length xsc, .slice xqa g.qs.length xqc] #[.int .i64 h.m.pg, .int .u32 h.m.ob, .int .i64 h.m.op, .int .i64 h.m.st, .int .i64 h.m.wy, .int .i64 h.m.li, .int .i64 h.m.sl, .int .u64 h.m.mj, .slice yca h.cs.length ycc, .slice ywa h.ws.length ywc, .slice ysa h.ss.length ysc, .slice yqa h.qs.length yqc])) (fun s11 _ => g.ss.length - (intOf s11).toNat)
     case atStart => exact ⟨0, rfl, by omega, ⟨rfl, H3.out.2.1, H3.out.2.2⟩⟩
     case round =>
      obtain ⟨i, rfl, hi, HT⟩ := hrel
      have sA : wr.cell? ⟨w.heap.size, 10, none⟩ = some (.slice xsa g.ss.length xsc) := (cells_at HT.out.2.2.1 10).1
      have rA : wr.cell? ⟨w.heap.size + 1, 10, none⟩ = some (.slice ysa h.ss.length ysc) := (cells_at HT.out.2.2.2 10).1
      by_cases hlt : i < g.ss.length
      ·have hiH : i < h.ss.length := by have := HC11.out; omega
       obtain ⟨bx, ox, e5, _, hcx⟩ := (SaAts.kp HL.out.2.2.1 HT.out.2.1).2.resolve_left (by omega)
       obtain ⟨by_, oy, e6, _, hcy⟩ := (SaAts.kp HL.out.2.2.2.2.2.2.1 HT.out.2.1).2.resolve_left (by omega)
       rw [e5] at sA
       rw [e6] at rA
       have hx := hcx i hlt
       have hy := hcy i hiH
       have gx : g.ss[i]? = some g.ss[i] := List.getElem?_eq_getElem hlt
       have gy : h.ss[i]? = some h.ss[i] := List.getElem?_eq_getElem hiH
       have tx := take_snocQ gx
       have ty := take_snocQ gy
       obtain ⟨x, hxx⟩ : ∃ x, x = g.ss[i] := ⟨_, rfl⟩
       obtain ⟨y, hyy⟩ : ∃ y, y = h.ss[i] := ⟨_, rfl⟩
       rw [← hxx] at hx gx tx
       rw [← hyy] at hy gy ty
       have HN : Hid ((x ≠ y → rv = false) ∧ g.ss.take (i + 1) = g.ss.take i ++ [x] ∧ h.ss.take (i + 1) = h.ss.take i ++ [y]) := by
        refine ⟨fun hne => ?_, tx, ty⟩
        rw [HV.out]
        refine decide_eq_false fun e => getQ_ne gx gy hne (by rw [e])
       clear hcx hcy gx gy tx ty hxx hyy e5 e6
       obtain ⟨_, _, lax, lcx, ax, ix⟩ := hx
       obtain ⟨_, _, lay, lcy, ay, iy⟩ := hy
       have a0 := ax 0 _ rfl
       have a1 := ax 1 _ rfl
       have a2 := ax 2 _ rfl
       have b0 := ay 0 _ rfl
       have b1' := ay 1 _ rfl
       have b2' := ay 2 _ rfl
       simp only [Nat.add_zero] at a0 b0
       have A1 := ri41_any wr.drew N N2 lax lay lcx lcy x.rs y.rs (ix.kp (Kp.drew wr)) (iy.kp (Kp.drew wr))
       clear ax ay ix iy
       have hS : (fun w' : World => w'.cell? ⟨w.heap.size, 10, none⟩ = some (.slice (some ⟨bx, ox, none⟩) g.ss.length xsc) ∧ w'.cell? ⟨w.heap.size + 1, 10, none⟩ = some (.slice (some ⟨by_, oy, none⟩) h.ss.length ysc) ∧ w'.cell? ⟨bx, ox + i * 3 + 2, none⟩ = some (.slice lax x.rs.length lcx) ∧ w'.cell? ⟨by_, oy + i * 3 + 2, none⟩ = some (.slice lay y.rs.length lcy)) wr.drew := ⟨sA, rA, a2, b2'⟩
       go_wp2_with fail
       refine reg16_26 wr w.heap.size bx ox by_ oy i g.ss.length h.ss.length xsc ysc x.rs.length y.rs.length lcx lcy lax lay (sameB x.rs y.rs) hlt hiH b3 d3 hS (fun w1 => Kp wr.drew w1) A1 (fun w1 k1 => ⟨k1.cell hS.1, k1.cell hS.2.1, k1.cell hS.2.2.1, k1.cell hS.2.2.2⟩) _ (fun _ _ _ q _ h => by cases q <;> exact h) ?_
       intro w1 k1
       have sB := k1.cell hS.1
       have rB := k1.cell hS.2.1
       have c0 := ((Kp.drew wr).trans k1).cell a0
       have c1 := ((Kp.drew wr).trans k1).cell a1
       have e0 := ((Kp.drew wr).trans k1).cell b0
       have e1 := ((Kp.drew wr).trans k1).cell b1'
       have HQ : Hid (Kp w w1 ∧ Two w1 w.heap.size #[.int .i64 g.m.pg, .int .u32 g.m.ob, .int .i64 g.m.op, .int .i64 g.m.st, .int .i64 g.m.wy, .int .i64 g.m.li, .int .i64 g.m.sl, .int .u64 g.m.mj, .slice xca g.cs.length xcc, .slice xwa g.ws.length xwc, .slice xsa g.ss.length xsc, .slice xqa g.qs.length xqc] #[.int .i64 h.m.pg, .int .u32 h.m.ob, .int .i64 h.m.op, .int .i64 h.m.st, .int .i64 h.m.wy, .int .i64 h.m.li, .int .i64 h.m.sl, .int .u64 h.m.mj, .slice yca h.cs.length ycc, .slice ywa h.ws.length ywc, .slice ysa h.ss.length ysc, .slice yqa h.qs.length yqc]) := ⟨(HT.out.2.1.trans (Kp.drew wr)).trans k1, HT.out.2.2.kp ((Kp.drew wr).trans k1)⟩
       clear A1 hS k1 sA rA a0 a1 a2 b0 b1' b2'
       by_cases m1 : x.rs = y.rs
       ·have n1 : sameB x.rs y.rs = true := by simp [sameB, m1]
        rw [n1]
        by_cases m2 : x.w = y.w
        ·have n2 : (x.w != y.w) = false := by simp [m2]
         by_cases m3 : x.s = y.s
         ·have n3 : (x.s != y.s) = false := by simp [m3]
          have HS : Hid (g.ss.take (i + 1) = h.ss.take (i + 1) ∧ Kp w w1 ∧ Two w1 w.heap.size #[.int .i64 g.m.pg, .int .u32 g.m.ob, .int .i64 g.m.op, .int .i64 g.m.st, .int .i64 g.m.wy, .int .i64 g.m.li, .int .i64 g.m.sl, .int .u64 g.m.mj, .slice xca g.cs.length xcc, .slice xwa g.ws.length xwc, .slice xsa g.ss.length xsc, .slice xqa g.qs.length xqc] #[.int .i64 h.m.pg, .int .u32 h.m.ob, .int .i64 h.m.op, .int .i64 h.m.st, .int .i64 h.m.wy, .int .i64 h.m.li, .int .i64 h.m.sl, .int .u64 h.m.mj, .slice yca h.cs.length ycc, .slice ywa h.ws.length ywc, .slice ysa h.ss.length ysc, .slice yqa h.qs.length yqc]) := ⟨by rw [HN.out.2.1, HN.out.2.2, HT.out.1, (sameSa x y).2 ⟨m2, m3, m1⟩], HQ.out.1, HQ.out.2⟩
          clear m1 m2 m3 n1 HN HT HQ
          go_wp2_with fail
          go_quiet (fail)
          go_wp2
          go_roundw
          case rel => exact ⟨i + 1, by go_num, by omega, ⟨HS.out.1, Chg.drewN HS.out.2.1 _, HS.out.2.2.kp (Kp.drewN _ _)⟩⟩
          case measure => simp [intOf]; omega
         ·have n3 : (x.s != y.s) = true := by simp [m3]
          have HS : Hid (rv = false ∧ Kp w w1) := ⟨HN.out.1 (fun e => m3 (by rw [e])), HQ.out.1⟩
          clear m1 m2 m3 n1 HN HT HQ
          go_wp2_with fail
          go_quiet (fail)
          go_wp2
          go_ret
          exact ⟨by rw [HS.out.1]; rfl, Chg.drewN HS.out.2 _⟩
        ·have n2 : (x.w != y.w) = true := by simp [m2]
         have HS : Hid (rv = false ∧ Kp w w1) := ⟨HN.out.1 (fun e => m2 (by rw [e])), HQ.out.1⟩
         clear m1 m2 n1 HN HT HQ
         go_wp2_with fail
         go_quiet (fail)
         go_wp2
         go_ret
         exact ⟨by rw [HS.out.1]; rfl, Chg.drewN HS.out.2 _⟩
       ·have n1 : sameB x.rs y.rs = false := by simp [sameB, m1]
        rw [n1]
        have HS : Hid (rv = false ∧ Kp w w1) := ⟨HN.out.1 (fun e => m1 (by rw [e])), HQ.out.1⟩
        clear m1 n1 HN HT HQ
        go_wp2_with fail
        go_quiet (fail)
        go_wp2
        go_ret
        exact ⟨by rw [HS.out.1]; rfl, Chg.drewN HS.out.2 _⟩
      ·have H4 : Hid ((g.ss = h.ss) ∧ Kp w wr ∧ Two wr w.heap.size #[.int .i64 g.m.pg, .int .u32 g.m.ob, .int .i64 g.m.op, .int .i64 g.m.st, .int .i64 g.m.wy, .int .i64 g.m.li, .int .i64 g.m.sl, .int .u64 g.m.mj, .slice xca g.cs.length xcc, .slice xwa g.ws.length xwc, .slice xsa g.ss.length xsc, .slice xqa g.qs.length xqc] #[.int .i64 h.m.pg, .int .u32 h.m.ob, .int .i64 h.m.op, .int .i64 h.m.st, .int .i64 h.m.wy, .int .i64 h.m.li, .int .i64 h.m.sl, .int .u64 h.m.mj, .slice yca h.cs.length ycc, .slice ywa h.ws.length ywc, .slice ysa h.ss.length ysc, .slice yqa h.qs.length yqc]) := by
        refine ⟨?_, HT.out.2.1, HT.out.2.2⟩
        have := HT.out.1
        rw [List.take_of_length_le (by omega), List.take_of_length_le (by have := HC11.out; omega)] at this
        exact this
       have E4' : Hid (g.ss = h.ss) := H4.out.1
       clear HT
       go_wp2_with fail
       clear sA rA
       have HC13 : Hid (g.qs.length = h.qs.length) := HZ.out.2.2.2.2.2.2.2.2.2
       obtain ⟨WR13, hWR13⟩ : ∃ WR, WR = wr := ⟨_, rfl⟩
       rw [← hWR13] at H4 ⊢
       clear hWR13 wr
       go_loopw [13] (fun s13 wr => ∃ i : Nat, s13 = .int .i64 (i : Nat) ∧ i ≤ g.qs.length ∧ Hid (g.qs.take i = h.qs.take i ∧ Kp w wr ∧ Two wr w.heap.size #[.int .i64 g.m.pg, .int .u32 g.m.ob, .int .i64 g.m.op, .int .i64 g.m.st, .int .i64 g.m.wy, .int .i64 g.m.li, .int .i64 g.m.sl, .int .u64 g.m.mj, .slice xca g.cs.length xcc, .slice xwa g.ws.length xwc, .slice xsa g.ss.length xsc, .slice xqa g.qs.length xqc] #[.int .i64 h.m.pg, .int .u32 h.m.ob, .int .i64 h.m.op, .int .i64 h.m.st, .int .i64 h.m.wy, .int .i64 h.m.li, .int .i64 h.m.sl, .int .u64 h.m.mj, .slice yca h.cs.length ycc, .slice ywa h.ws.length ywc, .slice ysa h.ss.length ysc, .slice yqa h.qs.length yqc])) (fun s13 _ => g.qs.length - (intOf s13).toNat)
       case atStart => exact ⟨0, rfl, by omega, ⟨rfl, H4.out.2.1, H4.out.2.2⟩⟩
       case round =>
        obtain ⟨i, rfl, hi, HT⟩ := hrel
        have sA : wr.cell? ⟨w.heap.size, 11, none⟩ = some (.slice xqa g.qs.length xqc) := (cells_at HT.out.2.2.1 11).1
        have rA : wr.cell? ⟨w.heap.size + 1, 11, none⟩ = some (.slice yqa h.qs.length yqc) := (cells_at HT.out.2.2.2 11).1
        by_cases hlt : i < g.qs.length
        ·have hiH : i < h.qs.length := by have := HC13.out; omega
         obtain ⟨b5, o5, e5, _, hc5⟩ := (QuAts.kp HL.out.2.2.2.1 HT.out.2.1).2.resolve_left (by omega)
         obtain ⟨b6, o6, e6, _, hc6⟩ := (QuAts.kp HL.out.2.2.2.2.2.2.2 HT.out.2.1).2.resolve_left (by omega)
         rw [e5] at sA
         rw [e6] at rA
         have ga : g.qs[i]? = some g.qs[i] := List.getElem?_eq_getElem hlt
         have gb : h.qs[i]? = some h.qs[i] := List.getElem?_eq_getElem hiH
         have ta := take_snocQ ga
         have tb := take_snocQ gb
         have pa := (hc5 i hlt).1
         have pb := (hc6 i hiH).1
         obtain ⟨p, hp⟩ : ∃ p, p = g.qs[i] := ⟨_, rfl⟩
         obtain ⟨q, hq⟩ : ∃ q, q = h.qs[i] := ⟨_, rfl⟩
         rw [← hp] at ga ta pa
         rw [← hq] at gb tb pb
         have p0 := pa 0 _ rfl
         have q0 := pb 0 _ rfl
         have p1 := pa 1 _ rfl
         have q1 := pb 1 _ rfl
         have p2 := pa 2 _ rfl
         have q2 := pb 2 _ rfl
         have p3 := pa 3 _ rfl
         have q3 := pb 3 _ rfl
         have p4 := pa 4 _ rfl
         have q4 := pb 4 _ rfl
         have p5 := pa 5 _ rfl
         have q5 := pb 5 _ rfl
         simp only [Nat.add_zero] at p0 q0
         have NE := fun W => neq98 p q W
         have HG : Hid ((p ≠ q → rv = false) ∧ g.qs.take (i + 1) = g.qs.take i ++ [p] ∧ h.qs.take (i + 1) = h.qs.take i ++ [q]) := by
          refine ⟨fun hne => ?_, ta, tb⟩
          rw [HV.out]
          exact decide_eq_false fun e => getQ_ne ga gb hne (by rw [e])
         clear hc5 hc6 ga gb ta tb pa pb hp hq e5 e6
         by_cases hpq : p = q
         ·rw [decide_eq_true hpq] at NE
          have HS : Hid (g.qs.take (i + 1) = h.qs.take (i + 1) ∧ Kp w wr ∧ Two wr w.heap.size #[.int .i64 g.m.pg, .int .u32 g.m.ob, .int .i64 g.m.op, .int .i64 g.m.st, .int .i64 g.m.wy, .int .i64 g.m.li, .int .i64 g.m.sl, .int .u64 g.m.mj, .slice xca g.cs.length xcc, .slice xwa g.ws.length xwc, .slice xsa g.ss.length xsc, .slice xqa g.qs.length xqc] #[.int .i64 h.m.pg, .int .u32 h.m.ob, .int .i64 h.m.op, .int .i64 h.m.st, .int .i64 h.m.wy, .int .i64 h.m.li, .int .i64 h.m.sl, .int .u64 h.m.mj, .slice yca h.cs.length ycc, .slice ywa h.ws.length ywc, .slice ysa h.ss.length ysc, .slice yqa h.qs.length yqc]) := ⟨by rw [HG.out.2.1, HG.out.2.2, HT.out.1, hpq], HT.out.2.1, HT.out.2.2⟩
          clear HG hpq HT
          go_wp2_with fail
          go_quiet (fail)
          go_wp2
          go_roundw
          case rel => exact ⟨i + 1, by go_num, by omega, ⟨HS.out.1, Chg.drewN HS.out.2.1 _, HS.out.2.2.kp (Kp.drewN _ _)⟩⟩
          case measure => simp [intOf]; omega
         ·rw [decide_eq_false hpq] at NE
          have HS : Hid (rv = false ∧ Kp w wr) := ⟨HG.out.1 hpq, HT.out.2.1⟩
          clear HG hpq HT
          go_wp2_with fail
          go_quiet (fail)
          go_wp2
          go_ret
          exact ⟨by rw [HS.out.1]; rfl, Chg.drewN HS.out.2 _⟩
        ·have H5 : Hid ((g.qs = h.qs) ∧ Kp w wr ∧ Two wr w.heap.size #[.int .i64 g.m.pg, .int .u32 g.m.ob, .int .i64 g.m.op, .int .i64 g.m.st, .int .i64 g.m.wy, .int .i64 g.m.li, .int .i64 g.m.sl, .int .u64 g.m.mj, .slice xca g.cs.length xcc, .slice xwa g.ws.length xwc, .slice xsa g.ss.length xsc, .slice xqa g.qs.length xqc] #[.int .i64 h.m.pg, .int .u32 h.m.ob, .int .i64 h.m.op, .int .i64 h.m.st, .int .i64 h.m.wy, .int .i64 h.m.li, .int .i64 h.m.sl, .int .u64 h.m.mj, .slice yca h.cs.length ycc, .slice ywa h.ws.length ywc, .slice ysa h.ss.length ysc, .slice yqa h.qs.length yqc]) := by
          refine ⟨?_, HT.out.2.1, HT.out.2.2⟩
          have := HT.out.1
          rw [List.take_of_length_le (by omega), List.take_of_length_le (by have := HC13.out; omega)] at this
          exact this
         have E5 : Hid (g.qs = h.qs) := H5.out.1
         clear HT
         have HS : Hid (rv = true ∧ Kp w wr) := by
          refine ⟨?_, H5.out.2.1⟩
          rw [HV.out]
          obtain ⟨p0, p1, p2, p3, p4, p5, _⟩ := HZ.out
          exact decide_eq_true ((sameCf g h).2 ⟨p0, p1, p2, p3, p4, p5, E1.out, E3.out, E4'.out, H5.out.1⟩)
         clear H5
         go_wp2
         go_ret
         exact ⟨by rw [HS.out.1]; rfl, HS.out.2⟩
end Go.Proofs.YtknlpjcdemijgaaGreat
