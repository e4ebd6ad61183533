import Derived.Test.YtkggkkoblpdopaaGreatOh
import Derived.Test.YtkggkkoblpdopaaGreatOa
namespace Go.Proofs.YtkggkkoblpdopaaGreat
open Go.ChangeShapes Go.WideShapes Go.ChangeAt Go.RowKit
set_option linter.unusedVariables false
theorem At.kp2 {w w' : World} {b o : Nat} {l : List Value} (h : At w b o l) (k : Kp w w') : At w' b o l := fun i u hu => Kp.cell k (h i u hu)
theorem RdB.kp2 {N : Nat} {w w' : World} {a : Option Addr} {bs : List Int} (h : RdB w N a bs) (k : Kp w w') : RdB w' N a bs := ⟨h.1.chg k (fun _ _ _ _ e => e), h.2⟩
theorem RdL.mg {N : Nat} {w w' : World} {a : Option Addr} {xs : List Mg} (h : RdL w N 2 (MgAt N) a xs) (k : Kp w w') : RdL w' N 2 (MgAt N) a xs := h.kpP (fun _ _ _ hb p => MgAt.cg (N' := N) p k.any (Nat.le_refl _) hb)
theorem SplAt.cells {N : Nat} {w : World} {b o : Nat} {r : Spl} (h : SplAt N w b o r) : ∃ pa pc qa qc, At w b o [.bool r.a, .bool r.b, .slice pa r.l.d.length pc, .int .u64 r.l.t, .slice qa r.n.d.length qc, .int .u64 r.n.t] ∧ RdB w N pa r.l.d ∧ RdB w N qa r.n.d := by
 obtain ⟨h1, ⟨_, pa, pc, h2, h3⟩, ⟨_, qa, qc, h4, h5⟩⟩ := h
 refine ⟨pa, pc, qa, qc, fun i u hu => ?_, h3, h5⟩
 match i, hu with
 | 0, hu => exact h1 0 u hu
 | 1, hu => exact h1 1 u hu
 | 2, hu => exact h2 0 u hu
 | 3, hu => exact h2 1 u hu
 | 4, hu => exact h4 0 u hu
 | 5, hu => exact h4 1 u hu
set_option maxRecDepth 100000 in
set_option maxHeartbeats 8000000 in
theorem same_st (w : World) (u v : Value) (z : Ste) (hu : IsSt w u z) (hv : IsSt w v z) : Calls Tryz.prog 12 #[u, v] w fun r w' => r = .returned (.bool true) ∧ Kp w w' := by
 obtain ⟨C, rfl, hs1⟩ := hu.arr
 obtain ⟨D, rfl, hs2⟩ := hv.arr
 obtain ⟨w1, hw1⟩ : ∃ w1, w1 = w.alloc (.cells C 36) := ⟨_, rfl⟩
 have k1 : Kp w w1 := by rw [hw1]; exact Kp.al _ _
 have hG1 := heap_alloc_new w (.cells C 36)
 rw [← hw1] at hG1
 obtain ⟨w2, hw2⟩ : ∃ w2, w2 = w1.alloc (.cells D 36) := ⟨_, rfl⟩
 have k2 : Kp w1 w2 := by rw [hw2]; exact Kp.al _ _
 have hG2 := heap_alloc_new w1 (.cells D 36)
 rw [← hw2] at hG2
 have T1 := (hu.boxed k1 (hp_lt hG1) hG1).cg (k2.any) (hp_lt hG1)
 have T2 := (hv.kp k1).boxed k2 (hp_lt hG2) hG2
 obtain ⟨N1, hN1⟩ : ∃ N, N = w1.heap.size := ⟨_, rfl⟩
 rw [← hN1] at T1
 obtain ⟨N2, hN2⟩ : ∃ N, N = w2.heap.size := ⟨_, rfl⟩
 rw [← hN2] at T2
 obtain ⟨ht, hgi, ba, bc, p1, q1, p2, q2, p3, q3, p4, q4, p5, q5, p6, q6, p7, q7, a1, a2, a3, b0, l1, l2, l3, l4, l5, l6, l7⟩ := T1
 obtain ⟨_, _, Ba, Bc, P1,Q1,P2,Q2,P3,Q3,P4,Q4,P5,Q5,P6,Q6,P7,Q7,A1,A2,A3,B0,L1,L2,L3,L4,L5,L6,L7⟩ := T2
 have eG : w1.heap.size = w.heap.size + 1 := by rw [hw1]; simp
 obtain ⟨G2, hG2e⟩ : ∃ G2,G2 = w1.heap.size := ⟨_, rfl⟩
 obtain ⟨G1, hG1e⟩ : ∃ G1,G1 = w.heap.size := ⟨_, rfl⟩
 rw [← hG1e] at a1 a2 a3
 rw [← hG2e] at A1 A2 A3
 have HK : Hid (Kp w w2) := Kp.trans k1 k2
 have HB : Hid (RdB w2 N1 ba z.bl ∧ RdB w2 N2 Ba z.bl ∧ z.gi.ok ∧ At w2 G1 (0 + 7) z.gi.cells ∧ At w2 G2 (0 + 7) z.gi.cells) := ⟨b0, B0, hgi, a2, A2⟩
 have HL : Hid (RdL w2 N1 2 (PgAt N1) p1 z.pg ∧ RdL w2 N2 2 (PgAt N2) P1 z.pg ∧ RdL w2 N1 22 CelAt p2 z.ce ∧ RdL w2 N2 22 CelAt P2 z.ce ∧ RdL w2 N1 3 LneAt p3 z.ln ∧ RdL w2 N2 3 LneAt P3 z.ln ∧ RdL w2 N1 4 SltAt p4 z.sl ∧ RdL w2 N2 4 SltAt P4 z.sl) := ⟨l1, L1, l2, L2, l3, L3, l4, L4⟩
 have HM : Hid (RdL w2 N1 6 (SplAt N1) p5 z.sa ∧ RdL w2 N2 6 (SplAt N2) P5 z.sa ∧ RdL w2 N1 7 (QueAt N1) p6 z.qu ∧ RdL w2 N2 7 (QueAt N2) P6 z.qu ∧ RdL w2 N1 2 ArrAt p7 z.ar ∧ RdL w2 N2 2 ArrAt P7 z.ar) := ⟨l5, L5, l6, L6, l7, L7⟩
 have HA : Hid (At w2 G1 0 [.slice ba z.bl.length bc, .int .u64 z.t, .bool z.w, .slice p1 z.pg.length q1, .slice p2 z.ce.length q2, .slice p3 z.ln.length q3, .slice p4 z.sl.length q4] ∧ At w2 G1 (0 + 41) [.slice p5 z.sa.length q5, .slice p6 z.qu.length q6, .slice p7 z.ar.length q7] ∧ At w2 G2 0 [.slice Ba z.bl.length Bc, .int .u64 z.t, .bool z.w, .slice P1 z.pg.length Q1, .slice P2 z.ce.length Q2, .slice P3 z.ln.length Q3, .slice P4 z.sl.length Q4] ∧ At w2 G2 (0 + 41) [.slice P5 z.sa.length Q5, .slice P6 z.qu.length Q6, .slice P7 z.ar.length Q7]) := ⟨a1, a3, A1,A3⟩
 have HN : Hid (z.pg.length ≤ 140737488355328 ∧ z.ce.length ≤ 140737488355328 ∧ z.ln.length ≤ 140737488355328 ∧ z.sl.length ≤ 140737488355328 ∧ z.sa.length ≤ 140737488355328 ∧ z.qu.length ≤ 140737488355328 ∧ z.ar.length ≤ 140737488355328) := ⟨l1.1, l2.1, l3.1, l4.1, l5.1, l6.1, l7.1⟩
 have s1 := a1 0 _ rfl
 have s2 := A1 0 _ rfl
 have X1 := same_eq32 w2 ba Ba z.bl.length bc Bc z.bl z.bl b0.1 B0.1
 have hsb : sameB z.bl z.bl = true := by unfold sameB; simp
 rw [hsb] at X1
 clear hu hv a1 a2 a3 A1 A2 A3 b0 B0 l1 l2 l3 l4 l5 l6 l7 L1 L2 L3 L4 L5 L6 L7 ht hgi k1 k2 hG1 hG2 hN1 hN2 hs1 hs2 hsb
 go_enter Tryz.func12, Tryz.ntmps12
 simp only [Nat.zero_add] at s1 s2
 rw [eG] at hG2e
 go_upto_region 1 with fail
 rw [← hw1, ← hw2, ← hG1e]
 try rw [← hG1e] at hG2e
 try rw [← hG2e]
 clear hw1 hw2 hG1e hG2e eG
 go_wp2_with fail
 go_at_call 32
 refine X1.mono ?_
 clear X1 s1 s2
 rintro e w3 ⟨rfl, k3⟩
 have HC : Hid (Kp w2 w3) := k3
 have c1 := HA.out.1.kp2 k3
 have c3 := HA.out.2.1.kp2 k3
 have C1 := HA.out.2.2.1.kp2 k3
 have C3 := HA.out.2.2.2.kp2 k3
 have e1 := c1 1 _ rfl
 have E1 := C1 1 _ rfl
 have e2 := c1 2 _ rfl
 have E2 := C1 2 _ rfl
 have e3 := c1 3 _ rfl
 have E3 := C1 3 _ rfl
 have e4 := c1 4 _ rfl
 have E4 := C1 4 _ rfl
 have e5 := c1 5 _ rfl
 have E5 := C1 5 _ rfl
 have e6 := c1 6 _ rfl
 have E6 := C1 6 _ rfl
 have f0 := c3 0 _ rfl
 have F0 := C3 0 _ rfl
 have f1 := c3 1 _ rfl
 have F1 := C3 1 _ rfl
 have f2 := c3 2 _ rfl
 have F2 := C3 2 _ rfl
 have r1 : w3.rangeAt G1 7 z.gi.cells := HB.out.2.2.2.1.kp2 k3
 have r2 : w3.rangeAt G2 7 z.gi.cells := HB.out.2.2.2.2.kp2 k3
 have hgl : (Tryz.prog.info? 31).map (·.size) = some z.gi.cells.length := by rw [Gi.len HB.out.2.2.1]; kernel_rfl
 have hq := neq31 z.gi HB.out.2.2.1 w3
 have hg := fun x y => eqg31 w3 .neq x y z.gi.cells.toArray z.gi.cells.toArray
 clear c1 c3 C1 C3 k3
 simp only [Nat.zero_add] at e1 e2 e3 e4 e5 e6 E1 E2 E3 E4 E5 E6 f0 f1 f2 F0 F1 F2
 obtain ⟨gc, hgc⟩ : ∃ gc, gc = z.gi.cells := ⟨_, rfl⟩
 rw [← hgc] at r1 r2 hgl hq hg
 obtain ⟨n1, hn1⟩ : ∃ n, n = z.pg.length := ⟨_, rfl⟩
 rw [← hn1] at HN HA
 obtain ⟨n2, hn2⟩ : ∃ n, n = z.ce.length := ⟨_, rfl⟩
 rw [← hn2] at HN HA
 obtain ⟨n3, hn3⟩ : ∃ n, n = z.ln.length := ⟨_, rfl⟩
 rw [← hn3] at HN HA
 obtain ⟨n4, hn4⟩ : ∃ n, n = z.sl.length := ⟨_, rfl⟩
 rw [← hn4] at HN HA
 obtain ⟨n5, hn5⟩ : ∃ n, n = z.sa.length := ⟨_, rfl⟩
 rw [← hn5] at HN HA
 obtain ⟨n6, hn6⟩ : ∃ n, n = z.qu.length := ⟨_, rfl⟩
 rw [← hn6] at HN HA
 obtain ⟨n7, hn7⟩ : ∃ n, n = z.ar.length := ⟨_, rfl⟩
 rw [← hn7] at HN HA
 rw [← hn1] at e3 E3
 rw [← hn2] at e4 E4
 rw [← hn3] at e5 E5
 rw [← hn4] at e6 E6
 rw [← hn5] at f0 F0
 rw [← hn6] at f1 F1
 rw [← hn7] at f2 F2
 have HE : Hid (n1 = z.pg.length ∧ n2 = z.ce.length ∧ n3 = z.ln.length ∧ n4 = z.sl.length ∧ n5 = z.sa.length ∧ n6 = z.qu.length ∧ n7 = z.ar.length) := ⟨hn1, hn2, hn3, hn4, hn5, hn6, hn7⟩
 clear hn1 hn2 hn3 hn4 hn5 hn6 hn7 hgc
 obtain ⟨b1, b2, b3, b4, b5, b6, b7⟩ := HN.out
 go_wp2_with (first | refine gload_mid (by rfl) 31 (.tmp 42) rfl G1 7 rfl gc _ r1 Tryz.underlying31 rfl hgl ?_ | refine gload_mid (by rfl) 31 (.tmp 44) rfl G2 7 rfl gc _ r2 Tryz.underlying31 rfl hgl ?_ | refine gbinop_run (by rfl) .neq 31 31 (.tmp 43) (.tmp 45) rfl (.agg gc.toArray) (.agg gc.toArray) (.bool false) rfl rfl (hg _ _) hq ?_)
 clear e1 e2 e3 e4 e5 e6 E1 E2 E3 E4 E5 E6 f0 f1 f2 F0 F1 F2 r1 r2 hgl hq hg
 rename World => wq
 go_loopw [6, 7] (fun i _ wr => ∃ k : Nat, k ≤ n1 ∧ i = .int .i64 k ∧ Hid (Kp w2 wr)) (fun i _ _ => n1 - (intOf i).toNat)
 case atStart => exact ⟨0, by omega, rfl, HC⟩
 case round =>
  obtain ⟨k, hk, rfl, HR⟩ := hrel
  rename World => wz
  have c1 : wz.cell? ⟨G1, 3, none⟩ = _ := Kp.cell HR.out (HA.out.1 3 _ rfl)
  have c2 : wz.cell? ⟨G2, 3, none⟩ = _ := Kp.cell HR.out (HA.out.2.2.1 3 _ rfl)
  by_cases hlt : k < n1
  ·rename_i aC
   clear aC
   have hlz : (k : Int) < (n1 : Int) := by omega
   obtain ⟨x1, x2, _⟩ := HL.out
   obtain ⟨xa, oa, ea, hba, ht1, pa, pc, hA, hPA⟩ := x1.nth (k := k) (by have := HE.out.1; omega)
   obtain ⟨xb, ob, eb, hbb, ht2, qa, qc, hB, hQA⟩ := x2.nth (k := k) (by have := HE.out.1; omega)
   clear x1 x2
   subst ea eb
   have kd := Kp.trans HR.out (Kp.drew wz)
   have a0 := kd.cell (hA 0 _ rfl)
   have b0 := kd.cell (hB 0 _ rfl)
   have a1 := kd.cell (hA 1 _ rfl)
   have b1 := kd.cell (hB 1 _ rfl)
   have d1 := Kp.cell (Kp.drew wz) c1
   have d2 := Kp.cell (Kp.drew wz) c2
   rw [Nat.add_zero] at a0 b0
   obtain ⟨x, hxx⟩ : ∃ x, x = z.pg[k]'(by have := HE.out.1; omega) := ⟨_, rfl⟩
   rw [← hxx] at a0 b0 a1 b1 hPA hQA
   have X1 := (same_eq32 wz.drew pa qa x.d.length pc qc x.d x.d (hPA.kp2 kd).1 (hQA.kp2 kd).1).mono (R' := fun e x1 => e = .returned (.bool true) ∧ (x1.cell? ⟨G1, 3, none⟩ = some (.slice (some ⟨xa, oa, none⟩) n1 q1) ∧ x1.cell? ⟨G2, 3, none⟩ = some (.slice (some ⟨xb, ob, none⟩) n1 Q1) ∧ x1.cell? ⟨xa, oa + k * 2 + 1, none⟩ = some (.slice pa x.d.length pc) ∧ x1.cell? ⟨xb, ob + k * 2 + 1, none⟩ = some (.slice qa x.d.length qc)) ∧ (Kp w2 x1 ∧ x1.cell? ⟨G1, 3, none⟩ = some (.slice (some ⟨xa, oa, none⟩) n1 q1) ∧ x1.cell? ⟨G2, 3, none⟩ = some (.slice (some ⟨xb, ob, none⟩) n1 Q1) ∧ x1.cell? ⟨xa, oa + k * 2, none⟩ = some (.int .u32 x.n) ∧ x1.cell? ⟨xb, ob + k * 2, none⟩ = some (.int .u32 x.n))) (fun r w' ⟨e, c⟩ => ⟨by rw [e]; unfold sameB; simp, ⟨Kp.cell c d1, Kp.cell c d2, Kp.cell c a1, Kp.cell c b1⟩, Kp.trans kd c, Kp.cell c d1, Kp.cell c d2, Kp.cell c a0, Kp.cell c b0⟩)
   have hS9 : (fun w' : World => w'.cell? ⟨G1, 3, none⟩ = some (.slice (some ⟨xa, oa, none⟩) n1 q1) ∧ w'.cell? ⟨G2, 3, none⟩ = some (.slice (some ⟨xb, ob, none⟩) n1 Q1) ∧ w'.cell? ⟨xa, oa + k * 2 + 1, none⟩ = some (.slice pa x.d.length pc) ∧ w'.cell? ⟨xb, ob + k * 2 + 1, none⟩ = some (.slice qa x.d.length qc)) wz.drew := ⟨d1, d2, a1, b1⟩
   clear ht1 ht2 kd hA hB hPA hQA a0 b0 a1 b1 d1 d2 HR HC
   go_wp2_with fail
   go_upto_region 9 with fail
   refine reg12_9 wz G1 G2 xa oa xb ob n1 q1 Q1 k hlt pa qa _ pc _ qc hS9 _ X1 _ (fun _ _ _ q _ h => by cases q <;> exact h) ?_
   clear X1 hS9 c1 c2
   rintro wy ⟨ky, y1, y2, y3, y4⟩
   have HY : Hid (Kp w2 wy) := ky
   have d1 := Kp.cell (Kp.drew wy) y1
   have d2 := Kp.cell (Kp.drew wy) y2
   have d3 := Kp.cell (Kp.drew wy) y3
   have d4 := Kp.cell (Kp.drew wy) y4
   obtain ⟨tt, htt⟩ : ∃ tt, tt = x.n := ⟨_, rfl⟩
   rw [← htt] at d3 d4 y3 y4
   clear ky hxx htt
   go_wp2_with fail
   go_quiet (fail)
   go_wp2
   go_roundw
   case rel => exact ⟨k + 1, by omega, by go_num, Kp.trans HY.out (Kp.drewN wy _)⟩
   case measure => simp [intOf]; omega
  ·have hlz : ¬ (k : Int) < (n1 : Int) := by omega
   have HD : Hid (Kp w2 wz) := HR.out
   clear HC HR
   have HC := HD
   clear HD
   go_wp2_with fail
   go_loopw [8] (fun i  wr => ∃ k : Nat, k ≤ n2 ∧ i = .int .i64 k ∧ Hid (Kp w2 wr)) (fun i  _ => n2 - (intOf i).toNat)
   case atStart => exact ⟨0, by omega, rfl, HC⟩
   case round =>
    obtain ⟨k, hk, rfl, HR⟩ := hrel
    rename World => wz
    have c1 : wz.cell? ⟨G1, 4, none⟩ = _ := Kp.cell HR.out (HA.out.1 4 _ rfl)
    have c2 : wz.cell? ⟨G2, 4, none⟩ = _ := Kp.cell HR.out (HA.out.2.2.1 4 _ rfl)
    by_cases hlt : k < n2
    ·rename_i aO KC aC
     clear hlz aC aO
     have hlz : (k : Int) < (n2 : Int) := by omega
     have x1 := HL.out.2.2.1
     have x2 := HL.out.2.2.2.1
     obtain ⟨xa, oa, ea, hba, hA, hok⟩ := x1.nth (k := k) (by have := HE.out.2.1; omega)
     obtain ⟨xb, ob, eb, hbb, hB, _⟩ := x2.nth (k := k) (by have := HE.out.2.1; omega)
     clear x1 x2
     subst ea eb
     obtain ⟨x, hxx⟩ : ∃ x, x = z.ce[k]'(by have := HE.out.2.1; omega) := ⟨_, rfl⟩
     rw [← hxx] at hA hB hok
     clear hxx
     have kd := Kp.trans HR.out (Kp.drew wz)
     have rA : (wz.drew).rangeAt xa (oa + k * 22) _ := hA.kp2 kd
     have rB : (wz.drew).rangeAt xb (ob + k * 22) _ := hB.kp2 kd
     have d1 := Kp.cell (Kp.drew wz) c1
     have d2 := Kp.cell (Kp.drew wz) c2
     have hlen : (Tryz.prog.info? 62).map (·.size) = some x.cells.length := by rw [show x.cells.length = 22 from by unfold Cel.cells; simp [hok.l]]; kernel_rfl
     have hq := neq62 x hok
     obtain ⟨CC, hCC⟩ : ∃ CC, CC = x.cells := ⟨_, rfl⟩
     rw [← hCC] at rA rB hlen hq
     have HY : Hid (Kp w2 wz.drew) := kd
     clear hok kd hA hB hCC
     go_wp2_with fail
     go_upto_region 15 with fail
     refine reg12_15 wz G1 G2 xa oa xb ob n2 q2 Q2 k hlt CC hlen hq ⟨d1, d2, rA, rB⟩ _ (fun _ _ _ q _ h => by cases q <;> exact h) ?_
     clear rA rB hlen hq d1 d2 c1 c2 HR
     go_wp2_with fail
     exact ⟨⟨k + 1, by omega, by go_num, HY⟩, by simp [intOf]; omega⟩
    ·have hlz : ¬ (k : Int) < (n2 : Int) := by omega
     have HD : Hid (Kp w2 wz) := HR.out
     clear HC HR
     have HC := HD
     clear HD
     go_wp2_with fail
     go_loopw [9] (fun i  wr => ∃ k : Nat, k ≤ n3 ∧ i = .int .i64 k ∧ Hid (Kp w2 wr)) (fun i  _ => n3 - (intOf i).toNat)
     case atStart => exact ⟨0, by omega, rfl, HC⟩
     case round =>
      obtain ⟨k, hk, rfl, HR⟩ := hrel
      rename World => wz
      have c1 : wz.cell? ⟨G1, 5, none⟩ = _ := Kp.cell HR.out (HA.out.1 5 _ rfl)
      have c2 : wz.cell? ⟨G2, 5, none⟩ = _ := Kp.cell HR.out (HA.out.2.2.1 5 _ rfl)
      by_cases hlt : k < n3
      ·rename_i aO KC aC
       clear hlz aC aO
       have hlz : (k : Int) < (n3 : Int) := by omega
       have x1 := HL.out.2.2.2.2.1
       have x2 := HL.out.2.2.2.2.2.1
       obtain ⟨xa, oa, ea, hba, hA, hok⟩ := x1.nth (k := k) (by have := HE.out.2.2.1; omega)
       obtain ⟨xb, ob, eb, hbb, hB, _⟩ := x2.nth (k := k) (by have := HE.out.2.2.1; omega)
       clear x1 x2
       subst ea eb
       obtain ⟨x, hxx⟩ : ∃ x, x = z.ln[k]'(by have := HE.out.2.2.1; omega) := ⟨_, rfl⟩
       rw [← hxx] at hA hB hok
       clear hxx
       have kd := Kp.trans HR.out (Kp.drew wz)
       have rA : (wz.drew).rangeAt xa (oa + k * 3) _ := hA.kp2 kd
       have rB : (wz.drew).rangeAt xb (ob + k * 3) _ := hB.kp2 kd
       have d1 := Kp.cell (Kp.drew wz) c1
       have d2 := Kp.cell (Kp.drew wz) c2
       have hlen : (Tryz.prog.info? 105).map (·.size) = some x.cells.length := by kernel_rfl
       have hq := neq105 x
       obtain ⟨CC, hCC⟩ : ∃ CC, CC = x.cells := ⟨_, rfl⟩
       rw [← hCC] at rA rB hlen hq
       have HY : Hid (Kp w2 wz.drew) := kd
       clear hok kd hA hB hCC
       go_wp2_with fail
       go_upto_region 20 with fail
       refine reg12_20 wz G1 G2 xa oa xb ob n3 q3 Q3 k hlt CC hlen hq ⟨d1, d2, rA, rB⟩ _ (fun _ _ _ q _ h => by cases q <;> exact h) ?_
       clear rA rB hlen hq d1 d2 c1 c2 HR
       go_wp2_with fail
       exact ⟨⟨k + 1, by omega, by go_num, HY⟩, by simp [intOf]; omega⟩
      ·have hlz : ¬ (k : Int) < (n3 : Int) := by omega
       have HD : Hid (Kp w2 wz) := HR.out
       clear HC HR
       have HC := HD
       clear HD
       go_wp2_with fail
       go_loopw [10] (fun i  wr => ∃ k : Nat, k ≤ n4 ∧ i = .int .i64 k ∧ Hid (Kp w2 wr)) (fun i  _ => n4 - (intOf i).toNat)
       case atStart => exact ⟨0, by omega, rfl, HC⟩
       case round =>
        obtain ⟨k, hk, rfl, HR⟩ := hrel
        rename World => wz
        have c1 : wz.cell? ⟨G1, 6, none⟩ = _ := Kp.cell HR.out (HA.out.1 6 _ rfl)
        have c2 : wz.cell? ⟨G2, 6, none⟩ = _ := Kp.cell HR.out (HA.out.2.2.1 6 _ rfl)
        by_cases hlt : k < n4
        ·rename_i aO KC aC
         clear hlz aC aO
         have hlz : (k : Int) < (n4 : Int) := by omega
         have x1 := HL.out.2.2.2.2.2.2.1
         have x2 := HL.out.2.2.2.2.2.2.2
         obtain ⟨xa, oa, ea, hba, hA, hok⟩ := x1.nth (k := k) (by have := HE.out.2.2.2.1; omega)
         obtain ⟨xb, ob, eb, hbb, hB, _⟩ := x2.nth (k := k) (by have := HE.out.2.2.2.1; omega)
         clear x1 x2
         subst ea eb
         obtain ⟨x, hxx⟩ : ∃ x, x = z.sl[k]'(by have := HE.out.2.2.2.1; omega) := ⟨_, rfl⟩
         rw [← hxx] at hA hB hok
         clear hxx
         have kd := Kp.trans HR.out (Kp.drew wz)
         have rA : (wz.drew).rangeAt xa (oa + k * 4) _ := hA.kp2 kd
         have rB : (wz.drew).rangeAt xb (ob + k * 4) _ := hB.kp2 kd
         have d1 := Kp.cell (Kp.drew wz) c1
         have d2 := Kp.cell (Kp.drew wz) c2
         have hlen : (Tryz.prog.info? 112).map (·.size) = some x.cells.length := by kernel_rfl
         have hq := neq112 x
         obtain ⟨CC, hCC⟩ : ∃ CC, CC = x.cells := ⟨_, rfl⟩
         rw [← hCC] at rA rB hlen hq
         have HY : Hid (Kp w2 wz.drew) := kd
         clear hok kd hA hB hCC
         go_wp2_with fail
         go_upto_region 25 with fail
         refine reg12_25 wz G1 G2 xa oa xb ob n4 q4 Q4 k hlt CC hlen hq ⟨d1, d2, rA, rB⟩ _ (fun _ _ _ q _ h => by cases q <;> exact h) ?_
         clear rA rB hlen hq d1 d2 c1 c2 HR
         go_wp2_with fail
         exact ⟨⟨k + 1, by omega, by go_num, HY⟩, by simp [intOf]; omega⟩
        ·have hlz : ¬ (k : Int) < (n4 : Int) := by omega
         have HD : Hid (Kp w2 wz) := HR.out
         clear HC HR
         have HC := HD
         clear HD
         go_wp2_with fail
         go_loopw [11, 12, 13, 14, 15] (fun i _ _ _ _ wr => ∃ k : Nat, k ≤ n5 ∧ i = .int .i64 k ∧ Hid (Kp w2 wr)) (fun i _ _ _ _ _ => n5 - (intOf i).toNat)
         case atStart => exact ⟨0, by omega, rfl, HC⟩
         case round =>
          obtain ⟨k, hk, rfl, HR⟩ := hrel
          rename World => wz
          have c1 : wz.cell? ⟨G1, 41, none⟩ = _ := Kp.cell HR.out (HA.out.2.1 0 _ rfl)
          have c2 : wz.cell? ⟨G2, 41, none⟩ = _ := Kp.cell HR.out (HA.out.2.2.2 0 _ rfl)
          by_cases hlt : k < n5
          ·rename_i aO KC aC
           clear hlz aC aO
           have hlz : (k : Int) < (n5 : Int) := by omega
           obtain ⟨x1, x2, _⟩ := HM.out
           obtain ⟨xa, oa, ea, hba, hA⟩ := x1.nth (k := k) (by have := HE.out.2.2.2.2.1; omega)
           obtain ⟨xb, ob, eb, hbb, hB⟩ := x2.nth (k := k) (by have := HE.out.2.2.2.2.1; omega)
           clear x1 x2
           subst ea eb
           obtain ⟨x, hxx⟩ : ∃ x, x = z.sa[k]'(by have := HE.out.2.2.2.2.1; omega) := ⟨_, rfl⟩
           rw [← hxx] at hA hB
           clear hxx
           obtain ⟨pa, pc, qa, qc, cA, dA1, dA2⟩ := hA.cells
           obtain ⟨ra, rc, sa, sc, cB, dB1, dB2⟩ := hB.cells
           obtain ⟨CA, hCA⟩ : ∃ CA : List Value, CA = [.bool x.a, .bool x.b, .slice pa x.l.d.length pc, .int .u64 x.l.t, .slice qa x.n.d.length qc, .int .u64 x.n.t] := ⟨_, rfl⟩
           obtain ⟨CB, hCB⟩ : ∃ CB : List Value, CB = [.bool x.a, .bool x.b, .slice ra x.l.d.length rc, .int .u64 x.l.t, .slice sa x.n.d.length sc, .int .u64 x.n.t] := ⟨_, rfl⟩
           rw [← hCA] at cA
           rw [← hCB] at cB
           have lA : (Tryz.prog.info? 114).map (·.size) = some CA.length := by rw [hCA]; kernel_rfl
           have lB : (Tryz.prog.info? 114).map (·.size) = some CB.length := by rw [hCB]; kernel_rfl
           have oA : CA.toArray.all (·.oneCell') = true := by rw [hCA]; simp [Value.oneCell']
           have oB : CB.toArray.all (·.oneCell') = true := by rw [hCB]; simp [Value.oneCell']
           have rA : wz.rangeAt xa (oa + k * 6) CA := cA.kp2 HR.out
           have tA := heap_alloc_new wz (.cells ZSpl 114)
           obtain ⟨wA, hwA⟩ : ∃ wA, wA = (wz.alloc (.cells ZSpl 114)).setRow wz.heap.size CA.toArray := ⟨_, rfl⟩
           have kA : Kp wz wA := by rw [hwA]; exact Chg.setRow (Kp.al wz _) (.inr (Nat.le_refl _)) _
           have hXA := setRow_heap (wz.alloc (.cells ZSpl 114)) wz.heap.size _ CA.toArray 114 _ tA
           rw [← hwA] at hXA
           have rB : wA.rangeAt xb (ob + k * 6) CB := cB.kp2 (Kp.trans HR.out kA)
           have eXB : wA.heap.size = wz.heap.size + 1 := by rw [hwA]; simp
           have tB := heap_alloc_new wA (.cells ZSpl 114)
           obtain ⟨wB, hwB⟩ : ∃ wB, wB = (wA.alloc (.cells ZSpl 114)).setRow wA.heap.size CB.toArray := ⟨_, rfl⟩
           have kB : Kp wA wB := by rw [hwB]; exact Chg.setRow (Kp.al wA _) (.inr (Nat.le_refl _)) _
           have hXB := setRow_heap (wA.alloc (.cells ZSpl 114)) wA.heap.size _ CB.toArray 114 _ tB
           rw [← hwB] at hXB
           have hXA2 := Kp.heap kB hXA
           have kz := Kp.trans HR.out (Kp.trans kA kB)
           have y1 := dA1.kp2 kz
           have y2 := dA2.kp2 kz
           have y3 := dB1.kp2 kz
           have y4 := dB2.kp2 kz
           have c2A := Kp.cell kA c2
           rw [eXB] at hXB
           have HX : Hid (Kp w2 wB ∧ RdB wB N1 pa x.l.d ∧ RdB wB N1 qa x.n.d ∧ RdB wB N2 ra x.l.d ∧ RdB wB N2 sa x.n.d ∧ wB.heap[wz.heap.size]? = some (.cells CA.toArray 114 (0, 0)) ∧ wB.heap[wz.heap.size + 1]? = some (.cells CB.toArray 114 (0, 0)) ∧ CA = [.bool x.a, .bool x.b, .slice pa x.l.d.length pc, .int .u64 x.l.t, .slice qa x.n.d.length qc, .int .u64 x.n.t] ∧ CB = [.bool x.a, .bool x.b, .slice ra x.l.d.length rc, .int .u64 x.l.t, .slice sa x.n.d.length sc, .int .u64 x.n.t]) := ⟨kz, y1, y2, y3, y4, hXA2, hXB, hCA, hCB⟩
           have HW : Hid (wA = (wz.alloc (.cells ZSpl 114)).setRow wz.heap.size CA.toArray ∧ wB = (wA.alloc (.cells ZSpl 114)).setRow wA.heap.size CB.toArray ∧ wA.heap.size = wz.heap.size + 1) := ⟨hwA, hwB, eXB⟩
           have sA : CA.toArray.size = 6 := by rw [hCA]; rfl
           have sB : CB.toArray.size = 6 := by rw [hCB]; rfl
           have lA2 : (Tryz.prog.info? 114).map (·.size) = some CA.toArray.size := by rw [sA]; kernel_rfl
           have lB2 : (Tryz.prog.info? 114).map (·.size) = some CB.toArray.size := by rw [sB]; kernel_rfl
           have zA : ZSpl.size = CA.toArray.size := by rw [sA]; rfl
           have zB : ZSpl.size = CB.toArray.size := by rw [sB]; rfl
           clear hXA hXB hXA2 kz y1 y2 y3 y4 hCA hCB cA cB dA1 dA2 dB1 dB2 hA hB kA kB HR HC hwA hwB eXB sA sB
           go_upto_region 31 with (first | refine wpList_load_mid rfl 114 (.tmp 210) rfl xa (oa + k * 6) rfl CA _ rA Tryz.underlying114 rfl lA ?_ | refine wpList_store_row rfl 114 (.tmp 12) (.tmp 211) rfl wz.heap.size CA.toArray rfl rfl 114 ZSpl tA lA2 zA oA ?_)
           rw [← HW.out.1]
           obtain ⟨XA, hXA⟩ : ∃ XA, XA = wz.heap.size := ⟨_, rfl⟩
           have HW2 : Hid (wB = (wA.alloc (.cells ZSpl 114)).setRow wA.heap.size CB.toArray ∧ wA.heap.size = XA + 1) := ⟨HW.out.2.1, by rw [hXA]; exact HW.out.2.2⟩
           rw [← hXA] at HX ⊢
           clear HW rA tA lA oA lA2 zA c1 c2 hXA
           go_upto_region 32 with (first | refine wpList_load_mid rfl 114 (.tmp 215) rfl xb (ob + k * 6) rfl CB _ rB Tryz.underlying114 rfl lB ?_ | refine wpList_store_row rfl 114 (.tmp 13) (.tmp 216) rfl wA.heap.size CB.toArray rfl rfl 114 ZSpl tB lB2 zB oB ?_)
           rw [← HW2.out.1, HW2.out.2]
           clear HW2 rB tB c2A lB oB lB2 zB
           obtain ⟨XB, hXB⟩ : ∃ XB, XB = XA + 1 := ⟨_, rfl⟩
           rw [← hXB] at HX ⊢
           clear hXB
           obtain ⟨kB, y1, y2, y3, y4, hA, hB, hCA, hCB⟩ := HX.out
           rw [hCA] at hA
           rw [hCB] at hB
           have HK5 : Hid (Kp w2 wB) := kB
           have X1 := same_eq32 wB pa ra x.l.d.length pc rc x.l.d x.l.d y1.1 y3.1
           have hsb : sameB x.l.d x.l.d = true := by unfold sameB; simp
           rw [hsb] at X1
           have g0 := (cells_at hA 2).1
           have g1 := (cells_at hB 2).1
           simp only [List.getElem?_toArray, List.getElem?_cons_succ, List.getElem?_cons_zero] at g0 g1
           clear kB y1 y2 y3 y4 hA hB hCA hCB hsb
           go_wp2_with fail
           go_at_call 32
           refine X1.mono ?_
           clear X1 g0 g1
           rintro e wD ⟨rfl, kD⟩
           obtain ⟨kB, y1, y2, y3, y4, hA, hB, hCA, hCB⟩ := HX.out
           rw [hCA] at hA
           rw [hCB] at hB
           have X1 := same_eq32 wD qa sa x.n.d.length qc sc x.n.d x.n.d (y2.kp2 kD).1 (y4.kp2 kD).1
           have hsb : sameB x.n.d x.n.d = true := by unfold sameB; simp
           rw [hsb] at X1
           have g0 := (cells_at (Kp.heap kD hA) 4).1
           have g1 := (cells_at (Kp.heap kD hB) 4).1
           simp only [List.getElem?_toArray, List.getElem?_cons_succ, List.getElem?_cons_zero] at g0 g1
           have HKD : Hid (Kp wB wD) := kD
           clear kB y1 y2 y3 y4 hA hB hCA hCB hsb kD
           go_wp2_with fail
           go_at_call 32
           refine X1.mono ?_
           clear X1 g0 g1
           rintro e wE ⟨rfl, kE⟩
           obtain ⟨kB, y1, y2, y3, y4, hA, hB, hCA, hCB⟩ := HX.out
           rw [hCA] at hA
           rw [hCB] at hB
           have kF := Kp.trans HKD.out kE
           have HKE : Hid (Kp w2 wE) := Kp.trans kB kF
           have gA := fun i => (cells_at (Kp.heap kF hA) i).1
           have gB := fun i => (cells_at (Kp.heap kF hB) i).1
           have g0 := gA 0
           have g1 := gA 1
           have g3 := gA 3
           have g5 := gA 5
           have h0 := gB 0
           have h1 := gB 1
           have h3 := gB 3
           have h5 := gB 5
           simp only [List.getElem?_toArray, List.getElem?_cons_succ, List.getElem?_cons_zero] at g0 g1 g3 g5 h0 h1 h3 h5
           clear gA gB kB y1 y2 y3 y4 hA hB hCA hCB kE kF HX HKD
           obtain ⟨xa', hxa'⟩ : ∃ a, a = x.a := ⟨_, rfl⟩
           obtain ⟨xb', hxb'⟩ : ∃ a, a = x.b := ⟨_, rfl⟩
           obtain ⟨xc', hxc'⟩ : ∃ a, a = x.l.t := ⟨_, rfl⟩
           obtain ⟨xd', hxd'⟩ : ∃ a, a = x.n.t := ⟨_, rfl⟩
           rw [← hxa'] at g0 h0
           rw [← hxb'] at g1 h1
           rw [← hxc'] at g3 h3
           rw [← hxd'] at g5 h5
           clear hxa' hxb' hxc' hxd'
           go_wp2_with fail
           exact ⟨⟨k + 1, by omega, by go_num, HKE⟩, by simp [intOf]; omega⟩
          ·have hlz : ¬ (k : Int) < (n5 : Int) := by omega
           have HD : Hid (Kp w2 wz) := HR.out
           clear HC HR
           have HC := HD
           clear HD
           go_wp2_with fail
           go_loopw [16, 17, 18] (fun i _ _ wr => ∃ k : Nat, k ≤ n6 ∧ i = .int .i64 k ∧ Hid (Kp w2 wr)) (fun i _ _ _ => n6 - (intOf i).toNat)
           case atStart => exact ⟨0, by omega, rfl, HC⟩
           case round =>
            obtain ⟨k, hk, rfl, HR⟩ := hrel
            rename World => wz
            have c1 : wz.cell? ⟨G1, 42, none⟩ = _ := Kp.cell HR.out (HA.out.2.1 1 _ rfl)
            have c2 : wz.cell? ⟨G2, 42, none⟩ = _ := Kp.cell HR.out (HA.out.2.2.2 1 _ rfl)
            by_cases hlt : k < n6
            ·rename_i aO KC aC
             clear hlz aC aO
             have hlz : (k : Int) < (n6 : Int) := by omega
             obtain ⟨_, _, x1, x2, _⟩ := HM.out
             obtain ⟨xa, oa, ea, hba, hA⟩ := x1.nth (k := k) (by have := HE.out.2.2.2.2.2.1; omega)
             obtain ⟨xb, ob, eb, hbb, hB⟩ := x2.nth (k := k) (by have := HE.out.2.2.2.2.2.1; omega)
             clear x1 x2
             subst ea eb
             obtain ⟨x, hxx⟩ : ∃ x, x = z.qu[k]'(by have := HE.out.2.2.2.2.2.1; omega) := ⟨_, rfl⟩
             rw [← hxx] at hA hB
             clear hxx
             obtain ⟨_, qa, qc, sa, sc, cA, dA1, dA2⟩ := hA
             obtain ⟨_, ra, rc, ta, tc, cB, dB1, dB2⟩ := hB
             obtain ⟨i0, hi0⟩ : ∃ a, a = x.c0 := ⟨_, rfl⟩
             obtain ⟨i1, hi1⟩ : ∃ a, a = x.c1 := ⟨_, rfl⟩
             obtain ⟨i2, hi2⟩ : ∃ a, a = x.c2 := ⟨_, rfl⟩
             obtain ⟨i3, hi3⟩ : ∃ a, a = x.c3 := ⟨_, rfl⟩
             obtain ⟨i4, hi4⟩ : ∃ a, a = x.c4 := ⟨_, rfl⟩
             rw [← hi0, ← hi1, ← hi2, ← hi3, ← hi4] at cA cB
             clear hi0 hi1 hi2 hi3 hi4
             have HQ : Hid (At w2 xa (oa + k * 7) [.int .i64 i0, .int .i64 i1, .int .i64 i2, .int .i64 i3, .int .i64 i4, .slice qa x.q.length qc, .slice sa x.s.length sc] ∧ At w2 xb (ob + k * 7) [.int .i64 i0, .int .i64 i1, .int .i64 i2, .int .i64 i3, .int .i64 i4, .slice ra x.q.length rc, .slice ta x.s.length tc] ∧ RdL w2 N1 2 (MgAt N1) qa x.q ∧ RdL w2 N1 2 (MgAt N1) sa x.s ∧ RdL w2 N2 2 (MgAt N2) ra x.q ∧ RdL w2 N2 2 (MgAt N2) ta x.s) := ⟨cA, cB, dA1, dA2, dB1, dB2⟩
             clear cA cB dA1 dA2 dB1 dB2
             have kd := Kp.trans HR.out (Kp.drew wz)
             have d1 := Kp.cell (Kp.drew wz) c1
             have d2 := Kp.cell (Kp.drew wz) c2
             have a0 := kd.cell (HQ.out.1 5 _ rfl)
             have b0 := kd.cell (HQ.out.2.1 5 _ rfl)
             have X1 := (smsg_any wz.drew N1 N2 qa ra x.q.length qc rc x.q rfl (HQ.out.2.2.1.mg kd) (HQ.out.2.2.2.2.1.mg kd)).mono (R' := fun e x1 => e = .returned (.bool true) ∧ (x1.cell? ⟨G1, 42, none⟩ = some (.slice (some ⟨xa, oa, none⟩) n6 q6) ∧ x1.cell? ⟨G2, 42, none⟩ = some (.slice (some ⟨xb, ob, none⟩) n6 Q6) ∧ x1.cell? ⟨xa, oa + k * 7 + 5, none⟩ = some (.slice qa x.q.length qc) ∧ x1.cell? ⟨xb, ob + k * 7 + 5, none⟩ = some (.slice ra x.q.length rc)) ∧ (Kp w2 x1 ∧ x1.cell? ⟨G1, 42, none⟩ = some (.slice (some ⟨xa, oa, none⟩) n6 q6) ∧ x1.cell? ⟨G2, 42, none⟩ = some (.slice (some ⟨xb, ob, none⟩) n6 Q6))) (fun r w' ⟨e, c⟩ => ⟨e, ⟨Kp.cell c d1, Kp.cell c d2, Kp.cell c a0, Kp.cell c b0⟩, Kp.trans kd c, Kp.cell c d1, Kp.cell c d2⟩)
             have hS9 : (fun w' : World => w'.cell? ⟨G1, 42, none⟩ = some (.slice (some ⟨xa, oa, none⟩) n6 q6) ∧ w'.cell? ⟨G2, 42, none⟩ = some (.slice (some ⟨xb, ob, none⟩) n6 Q6) ∧ w'.cell? ⟨xa, oa + k * 7 + 5, none⟩ = some (.slice qa x.q.length qc) ∧ w'.cell? ⟨xb, ob + k * 7 + 5, none⟩ = some (.slice ra x.q.length rc)) wz.drew := ⟨d1, d2, a0, b0⟩
             clear kd a0 b0 d1 d2 HR HC
             go_wp2_with fail
             go_upto_region 39 with fail
             refine reg12_39 wz G1 G2 xa oa xb ob n6 q6 Q6 k hlt qa ra _ qc _ rc hS9 _ X1 _ (fun _ _ _ q _ h => by cases q <;> exact h) ?_
             clear X1 hS9 c1 c2
             rintro wy ⟨ky, c1, c2⟩
             have HY : Hid (Kp w2 wy) := ky
             have kd := Kp.trans ky (Kp.drew wy)
             have d1 := Kp.cell (Kp.drew wy) c1
             have d2 := Kp.cell (Kp.drew wy) c2
             have a0 := kd.cell (HQ.out.1 6 _ rfl)
             have b0 := kd.cell (HQ.out.2.1 6 _ rfl)
             have X1 := (smsg_any wy.drew N1 N2 sa ta x.s.length sc tc x.s rfl (HQ.out.2.2.2.1.mg kd) (HQ.out.2.2.2.2.2.mg kd)).mono (R' := fun e x1 => e = .returned (.bool true) ∧ (x1.cell? ⟨G1, 42, none⟩ = some (.slice (some ⟨xa, oa, none⟩) n6 q6) ∧ x1.cell? ⟨G2, 42, none⟩ = some (.slice (some ⟨xb, ob, none⟩) n6 Q6) ∧ x1.cell? ⟨xa, oa + k * 7 + 6, none⟩ = some (.slice sa x.s.length sc) ∧ x1.cell? ⟨xb, ob + k * 7 + 6, none⟩ = some (.slice ta x.s.length tc)) ∧ (Kp w2 x1 ∧ x1.cell? ⟨G1, 42, none⟩ = some (.slice (some ⟨xa, oa, none⟩) n6 q6) ∧ x1.cell? ⟨G2, 42, none⟩ = some (.slice (some ⟨xb, ob, none⟩) n6 Q6))) (fun r w' ⟨e, c⟩ => ⟨e, ⟨Kp.cell c d1, Kp.cell c d2, Kp.cell c a0, Kp.cell c b0⟩, Kp.trans kd c, Kp.cell c d1, Kp.cell c d2⟩)
             have hS9 : (fun w' : World => w'.cell? ⟨G1, 42, none⟩ = some (.slice (some ⟨xa, oa, none⟩) n6 q6) ∧ w'.cell? ⟨G2, 42, none⟩ = some (.slice (some ⟨xb, ob, none⟩) n6 Q6) ∧ w'.cell? ⟨xa, oa + k * 7 + 6, none⟩ = some (.slice sa x.s.length sc) ∧ w'.cell? ⟨xb, ob + k * 7 + 6, none⟩ = some (.slice ta x.s.length tc)) wy.drew := ⟨d1, d2, a0, b0⟩
             clear kd a0 b0 d1 d2 ky
             go_upto_region 40 with fail
             refine reg12_40 wy G1 G2 xa oa xb ob n6 q6 Q6 k hlt sa ta _ sc _ tc hS9 _ X1 _ (fun _ _ _ q _ h => by cases q <;> exact h) ?_
             clear X1 hS9 c1 c2 HY
             rintro wx ⟨ky, c1, c2⟩
             have HY : Hid (Kp w2 wx) := ky
             have kd := Kp.trans ky (Kp.drew wx)
             have d1 := Kp.cell (Kp.drew wx) c1
             have d2 := Kp.cell (Kp.drew wx) c2
             have rA : (wx.drew).rangeAt xa (oa + k * 7) [.int .i64 i0, .int .i64 i1, .int .i64 i2, .int .i64 i3, .int .i64 i4] := fun i u hu => (HQ.out.1.kp2 kd) i u (by rw [← hu]; have := (List.getElem?_eq_some_iff.1 hu).1; exact List.getElem?_append_left (l₂ := [.slice qa x.q.length qc, .slice sa x.s.length sc]) this)
             have rB : (wx.drew).rangeAt xb (ob + k * 7) [.int .i64 i0, .int .i64 i1, .int .i64 i2, .int .i64 i3, .int .i64 i4] := fun i u hu => (HQ.out.2.1.kp2 kd) i u (by rw [← hu]; have := (List.getElem?_eq_some_iff.1 hu).1; exact List.getElem?_append_left (l₂ := [.slice ra x.q.length rc, .slice ta x.s.length tc]) this)
             have hq := neq67 i0 i1 i2 i3 i4
             clear kd ky
             go_upto_region 41 with fail
             refine reg12_41 wx G1 G2 xa oa xb ob n6 q6 Q6 k hlt _ (by kernel_rfl) hq ⟨d1, d2, rA, rB⟩ _ (fun _ _ _ q _ h => by cases q <;> exact h) ?_
             clear rA rB hq d1 d2 c1 c2
             go_wp2_with fail
             exact ⟨⟨k + 1, by omega, by go_num, Kp.trans HY.out (Kp.drew wx)⟩, by simp [intOf]; omega⟩
            ·have hlz : ¬ (k : Int) < (n6 : Int) := by omega
             have HD : Hid (Kp w2 wz) := HR.out
             clear HC HR
             have HC := HD
             clear HD
             go_wp2_with fail
             go_loopw [19] (fun i  wr => ∃ k : Nat, k ≤ n7 ∧ i = .int .i64 k ∧ Hid (Kp w2 wr)) (fun i  _ => n7 - (intOf i).toNat)
             case atStart => exact ⟨0, by omega, rfl, HC⟩
             case round =>
              obtain ⟨k, hk, rfl, HR⟩ := hrel
              rename World => wz
              have c1 : wz.cell? ⟨G1, 43, none⟩ = _ := Kp.cell HR.out (HA.out.2.1 2 _ rfl)
              have c2 : wz.cell? ⟨G2, 43, none⟩ = _ := Kp.cell HR.out (HA.out.2.2.2 2 _ rfl)
              by_cases hlt : k < n7
              ·rename_i aO KC aC
               clear hlz aC aO
               have hlz : (k : Int) < (n7 : Int) := by omega
               have x1 := HM.out.2.2.2.2.1
               have x2 := HM.out.2.2.2.2.2
               obtain ⟨xa, oa, ea, hba, hA, hok⟩ := x1.nth (k := k) (by have := HE.out.2.2.2.2.2.2; omega)
               obtain ⟨xb, ob, eb, hbb, hB, _⟩ := x2.nth (k := k) (by have := HE.out.2.2.2.2.2.2; omega)
               clear x1 x2
               subst ea eb
               obtain ⟨x, hxx⟩ : ∃ x, x = z.ar[k]'(by have := HE.out.2.2.2.2.2.2; omega) := ⟨_, rfl⟩
               rw [← hxx] at hA hB hok
               clear hxx
               have kd := Kp.trans HR.out (Kp.drew wz)
               have rA : (wz.drew).rangeAt xa (oa + k * 2) _ := hA.kp2 kd
               have rB : (wz.drew).rangeAt xb (ob + k * 2) _ := hB.kp2 kd
               have d1 := Kp.cell (Kp.drew wz) c1
               have d2 := Kp.cell (Kp.drew wz) c2
               have hlen : (Tryz.prog.info? 117).map (·.size) = some x.cells.length := by kernel_rfl
               have hq := neq117 x
               obtain ⟨CC, hCC⟩ : ∃ CC, CC = x.cells := ⟨_, rfl⟩
               rw [← hCC] at rA rB hlen hq
               have HY : Hid (Kp w2 wz.drew) := kd
               clear hok kd hA hB hCC
               go_wp2_with fail
               go_upto_region 46 with fail
               refine reg12_46 wz G1 G2 xa oa xb ob n7 q7 Q7 k hlt CC hlen hq ⟨d1, d2, rA, rB⟩ _ (fun _ _ _ q _ h => by cases q <;> exact h) ?_
               clear rA rB hlen hq d1 d2 c1 c2 HR
               go_wp2_with fail
               exact ⟨⟨k + 1, by omega, by go_num, HY⟩, by simp [intOf]; omega⟩
              ·have hlz : ¬ (k : Int) < (n7 : Int) := by omega
               have HD : Hid (Kp w2 wz) := HR.out
               clear HC HR
               have HC := HD
               clear HD
               go_wp2
               go_ret
               exact ⟨rfl, Kp.trans HK.out HC.out⟩
end Go.Proofs.YtkggkkoblpdopaaGreat
