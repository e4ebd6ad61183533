import Derived.Test.YtibpbemenjgncaaHe
namespace Go.Proofs.Ytibpbemenjgncaa
open Go.ChangeShapes Go.WideShapes Go.ChangeAt Go.RowKit
set_option linter.unusedVariables false
theorem Fg.heap31 {W w w' : World} (h : Fg W w w') {b T : Nat} {cs : Array Value} (hb : w.heap[b]? = some (.cells cs T (0, 0))) (h1 : T ≠ 57) (h2 : T ≠ 26) : w'.heap[b]? = some (.cells cs T (0, 0)) := by
  obtain ⟨S, hc, hS⟩ := h
  refine hc.heap hb (fun e => ?_)
  obtain ⟨⟨cs', T', q1, q2⟩, _⟩ := hS b e
  rw [hb] at q1
  simp at q1
  rcases q2 with rfl | rfl
  · exact h1 q1.2
  · exact h2 q1.2
section
variable (W w : World) (σ : Nat → Nat) (K : Nat) (V : Nat → Value) (X : Nat → List Value) (MM : List Int) (fr hd ll : List Ent) (B F : Nat) (p : PS)
set_option maxHeartbeats 8000000 in
set_option maxRecDepth 10000 in
theorem step_state (h : Rdy W w σ K V X MM fr hd ll B F p) (ce tk : Int) (v : Value) (th nt : Bool) (v1 : Value) (t1 : Int) (v2 : Value) (t2 : Int) :
    Calls Try.prog 20 #[.pointer (some ⟨B, 0, none⟩), .pointer (some ⟨F, 0, none⟩), .agg #[.int .i64 4, .int .i64 ce, .int .u64 tk, v, .bool th, .bool nt, v1, .int .u64 t1, v2, .int .u64 t2], .pointer (some ⟨K, 0, none⟩)] w fun e w' => e = .returned (.bool true) ∧ StP W w w' σ K MM fr hd ll B F := by
  have kA := Kp.al w (.cells #[.int .i64 4, .int .i64 ce, .int .u64 tk, v, .bool th, .bool nt, v1, .int .u64 t1, v2, .int .u64 t2] 33)
  have hb := heap_alloc_new w (.cells #[.int .i64 4, .int .i64 ce, .int .u64 tk, v, .bool th, .bool nt, v1, .int .u64 t1, v2, .int .u64 t2] 33)
  have HH : Hid (Rdy W (w.alloc (.cells #[.int .i64 4, .int .i64 ce, .int .u64 tk, v, .bool th, .bool nt, v1, .int .u64 t1, v2, .int .u64 t2] 33)) σ K V X MM fr hd ll B F p ∧ Kp w (w.alloc (.cells #[.int .i64 4, .int .i64 ce, .int .u64 tk, v, .bool th, .bool nt, v1, .int .u64 t1, v2, .int .u64 t2] 33))) := ⟨h.al kA, kA⟩
  clear h kA
  go_enter Try.func20, Try.ntmps20
  go_upto_region 1 with fail
  generalize w.alloc (.cells #[.int .i64 4, .int .i64 ce, .int .u64 tk, v, .bool th, .bool nt, v1, .int .u64 t1, v2, .int .u64 t2] 33) = w1 at *
  generalize w.heap.size = N at *
  have z0 : w1.cell? ⟨N, 0, none⟩ = some (.int .i64 4) := (cells_at hb 0).1
  clear hb
  obtain ⟨M, hM⟩ := fresh_id (hd ++ fr ++ ll)
  obtain ⟨hl1, hl2⟩ := HH.out.1.x.s256
  go_wp2_with fail
  go_at_call 17
  refine HH.out.1.x.state.mono ?_
  rintro e w2 ⟨r1, q1, rfl, o1, o2, k2, n1, n2, nn⟩
  obtain ⟨a1, c1, rfl⟩ := o1.shape
  obtain ⟨b1, d1, rfl⟩ := o2.shape
  have D2 := HH.out.1.dn.lab2 k2 o1 n1 o2 n2 (10 + M) (10 + (M + 1))
  have l1 : Lb (lab (lab σ (.slice a1 p.la.bs.length c1) (10 + M)) (.slice b1 p.ne.bs.length d1) (10 + (M + 1))) (.slice a1 p.la.bs.length c1) (10 + M) := lab_other (lab_same _ _ _) (fun b hb e => nn b hb e)
  have l2 : Lb (lab (lab σ (.slice a1 p.la.bs.length c1) (10 + M)) (.slice b1 p.ne.bs.length d1) (10 + (M + 1))) (.slice b1 p.ne.bs.length d1) (10 + (M + 1)) := lab_same _ _ _
  generalize (lab (lab σ (.slice a1 p.la.bs.length c1) (10 + M)) (.slice b1 p.ne.bs.length d1) (10 + (M + 1))) = σ2 at *
  have kB := Kp.al w2 (.cells #[.bool p.la.th, .bool p.ne.th, .slice a1 p.la.bs.length c1, .int .u64 p.la.tk, .slice b1 p.ne.bs.length d1, .int .u64 p.ne.tk] 31)
  have X1 := heap_alloc_new w2 (.cells #[.bool p.la.th, .bool p.ne.th, .slice a1 p.la.bs.length c1, .int .u64 p.la.tk, .slice b1 p.ne.bs.length d1, .int .u64 p.ne.tk] 31)
  have HD3 : Hid (Dn W w1 (w2.alloc (.cells #[.bool p.la.th, .bool p.ne.th, .slice a1 p.la.bs.length c1, .int .u64 p.la.tk, .slice b1 p.ne.bs.length d1, .int .u64 p.ne.tk] 31)) σ σ2 K V X MM fr hd ll B F p p ∧ OB (w2.alloc (.cells #[.bool p.la.th, .bool p.ne.th, .slice a1 p.la.bs.length c1, .int .u64 p.la.tk, .slice b1 p.ne.bs.length d1, .int .u64 p.ne.tk] 31)) (.slice a1 p.la.bs.length c1) p.la.bs ∧ OB (w2.alloc (.cells #[.bool p.la.th, .bool p.ne.th, .slice a1 p.la.bs.length c1, .int .u64 p.la.tk, .slice b1 p.ne.bs.length d1, .int .u64 p.ne.tk] 31)) (.slice b1 p.ne.bs.length d1) p.ne.bs ∧ Lb σ2 (.slice a1 p.la.bs.length c1) (10 + M) ∧ Lb σ2 (.slice b1 p.ne.bs.length d1) (10 + (M + 1)) ∧ (w2.alloc (.cells #[.bool p.la.th, .bool p.ne.th, .slice a1 p.la.bs.length c1, .int .u64 p.la.tk, .slice b1 p.ne.bs.length d1, .int .u64 p.ne.tk] 31)).heap[w2.heap.size]? = some (.cells #[.bool p.la.th, .bool p.ne.th, .slice a1 p.la.bs.length c1, .int .u64 p.la.tk, .slice b1 p.ne.bs.length d1, .int .u64 p.ne.tk] 31 (0, 0))) := ⟨D2.al kB, Chg.owns kB o1 (fun _ _ h => h), Chg.owns kB o2 (fun _ _ h => h), l1, l2, X1⟩
  clear D2 kB X1 l1 l2 nn o1 o2 k2 n1 n2 z0
  go_upto_region 34 with fail
  generalize w2.heap.size = A1 at *
  generalize w2.alloc (.cells #[.bool p.la.th, .bool p.ne.th, .slice a1 p.la.bs.length c1, .int .u64 p.la.tk, .slice b1 p.ne.bs.length d1, .int .u64 p.ne.tk] 31) = w3 at *
  go_wp2_with fail
  go_at_call 17
  refine HD3.out.1.x.state.mono ?_
  rintro e w4 ⟨r2, q2, rfl, o1, o2, k2, n1, n2, nn⟩
  obtain ⟨a2, c2, rfl⟩ := o1.shape
  obtain ⟨b2, d2, rfl⟩ := o2.shape
  obtain ⟨D3, p1, p2, l1, l2, x1⟩ := HD3.out
  have D4 := D3.lab2 k2 o1 n1 o2 n2 (10 + (M + 2)) (10 + (M + 3))
  have kB := Kp.al w4 (.cells #[.bool p.la.th, .bool p.ne.th, .slice a2 p.la.bs.length c2, .int .u64 p.la.tk, .slice b2 p.ne.bs.length d2, .int .u64 p.ne.tk] 31)
  have X2 := heap_alloc_new w4 (.cells #[.bool p.la.th, .bool p.ne.th, .slice a2 p.la.bs.length c2, .int .u64 p.la.tk, .slice b2 p.ne.bs.length d2, .int .u64 p.ne.tk] 31)
  have k3 := k2.trans kB
  have LL : Hid (Lb (lab (lab σ2 (.slice a2 p.la.bs.length c2) (10 + (M + 2))) (.slice b2 p.ne.bs.length d2) (10 + (M + 3))) (.slice a1 p.la.bs.length c1) (10 + M) ∧ Lb (lab (lab σ2 (.slice a2 p.la.bs.length c2) (10 + (M + 2))) (.slice b2 p.ne.bs.length d2) (10 + (M + 3))) (.slice b1 p.ne.bs.length d1) (10 + (M + 1)) ∧ Lb (lab (lab σ2 (.slice a2 p.la.bs.length c2) (10 + (M + 2))) (.slice b2 p.ne.bs.length d2) (10 + (M + 3))) (.slice a2 p.la.bs.length c2) (10 + (M + 2)) ∧ Lb (lab (lab σ2 (.slice a2 p.la.bs.length c2) (10 + (M + 2))) (.slice b2 p.ne.bs.length d2) (10 + (M + 3))) (.slice b2 p.ne.bs.length d2) (10 + (M + 3))) := ⟨lb_keep p1 (lb_keep p1 l1 n1) n2, lb_keep p2 (lb_keep p2 l2 n1) n2, lab_other (lab_same _ _ _) (fun b hb e => nn b hb e), lab_same _ _ _⟩
  generalize lab (lab σ2 (.slice a2 p.la.bs.length c2) (10 + (M + 2))) (.slice b2 p.ne.bs.length d2) (10 + (M + 3)) = σ4 at *
  have HD5 : Hid (Dn W w1 (w4.alloc (.cells #[.bool p.la.th, .bool p.ne.th, .slice a2 p.la.bs.length c2, .int .u64 p.la.tk, .slice b2 p.ne.bs.length d2, .int .u64 p.ne.tk] 31)) σ σ4 K V X MM fr hd ll B F p p ∧ OB (w4.alloc (.cells #[.bool p.la.th, .bool p.ne.th, .slice a2 p.la.bs.length c2, .int .u64 p.la.tk, .slice b2 p.ne.bs.length d2, .int .u64 p.ne.tk] 31)) (.slice a1 p.la.bs.length c1) p.la.bs ∧ OB (w4.alloc (.cells #[.bool p.la.th, .bool p.ne.th, .slice a2 p.la.bs.length c2, .int .u64 p.la.tk, .slice b2 p.ne.bs.length d2, .int .u64 p.ne.tk] 31)) (.slice b1 p.ne.bs.length d1) p.ne.bs ∧ OB (w4.alloc (.cells #[.bool p.la.th, .bool p.ne.th, .slice a2 p.la.bs.length c2, .int .u64 p.la.tk, .slice b2 p.ne.bs.length d2, .int .u64 p.ne.tk] 31)) (.slice a2 p.la.bs.length c2) p.la.bs ∧ OB (w4.alloc (.cells #[.bool p.la.th, .bool p.ne.th, .slice a2 p.la.bs.length c2, .int .u64 p.la.tk, .slice b2 p.ne.bs.length d2, .int .u64 p.ne.tk] 31)) (.slice b2 p.ne.bs.length d2) p.ne.bs ∧ (w4.alloc (.cells #[.bool p.la.th, .bool p.ne.th, .slice a2 p.la.bs.length c2, .int .u64 p.la.tk, .slice b2 p.ne.bs.length d2, .int .u64 p.ne.tk] 31)).heap[A1]? = some (.cells #[.bool p.la.th, .bool p.ne.th, .slice a1 p.la.bs.length c1, .int .u64 p.la.tk, .slice b1 p.ne.bs.length d1, .int .u64 p.ne.tk] 31 (0, 0)) ∧ (w4.alloc (.cells #[.bool p.la.th, .bool p.ne.th, .slice a2 p.la.bs.length c2, .int .u64 p.la.tk, .slice b2 p.ne.bs.length d2, .int .u64 p.ne.tk] 31)).heap[w4.heap.size]? = some (.cells #[.bool p.la.th, .bool p.ne.th, .slice a2 p.la.bs.length c2, .int .u64 p.la.tk, .slice b2 p.ne.bs.length d2, .int .u64 p.ne.tk] 31 (0, 0))) := ⟨D4.al kB, Chg.owns k3 p1 (fun _ _ h => h), Chg.owns k3 p2 (fun _ _ h => h), Chg.owns kB o1 (fun _ _ h => h), Chg.owns kB o2 (fun _ _ h => h), k3.heap x1, X2⟩
  clear D3 D4 p1 p2 x1 X2 l1 l2 nn o1 o2 k2 kB k3 n1 n2 HD3
  go_upto_region 35 with fail
  generalize w4.heap.size = A2 at *
  generalize w4.alloc (.cells #[.bool p.la.th, .bool p.ne.th, .slice a2 p.la.bs.length c2, .int .u64 p.la.tk, .slice b2 p.ne.bs.length d2, .int .u64 p.ne.tk] 31) = w5 at *
  go_wp2_with fail
  go_at_call 21
  refine HD5.out.1.y.state.mono ?_
  rintro e w6 ⟨r3, q3, rfl, o1, o2, k2, n1, n2⟩
  obtain ⟨a3, c3, rfl⟩ := o1.shape
  obtain ⟨b3, d3, rfl⟩ := o2.shape
  obtain ⟨D5, p1, p2, p3, p4, x1, x2⟩ := HD5.out
  have kB := Kp.al w6 (.cells #[.bool p.la.th, .bool p.ne.th, .slice a3 p.la.bs.length c3, .int .u64 p.la.tk, .slice b3 p.ne.bs.length d3, .int .u64 p.ne.tk] 31)
  have X3 := heap_alloc_new w6 (.cells #[.bool p.la.th, .bool p.ne.th, .slice a3 p.la.bs.length c3, .int .u64 p.la.tk, .slice b3 p.ne.bs.length d3, .int .u64 p.ne.tk] 31)
  have k3 := k2.trans kB
  have HD7 : Hid (Dn W w1 (w6.alloc (.cells #[.bool p.la.th, .bool p.ne.th, .slice a3 p.la.bs.length c3, .int .u64 p.la.tk, .slice b3 p.ne.bs.length d3, .int .u64 p.ne.tk] 31)) σ σ4 K V X MM fr hd ll B F p p ∧ OB (w6.alloc (.cells #[.bool p.la.th, .bool p.ne.th, .slice a3 p.la.bs.length c3, .int .u64 p.la.tk, .slice b3 p.ne.bs.length d3, .int .u64 p.ne.tk] 31)) (.slice a1 p.la.bs.length c1) p.la.bs ∧ OB (w6.alloc (.cells #[.bool p.la.th, .bool p.ne.th, .slice a3 p.la.bs.length c3, .int .u64 p.la.tk, .slice b3 p.ne.bs.length d3, .int .u64 p.ne.tk] 31)) (.slice b1 p.ne.bs.length d1) p.ne.bs ∧ OB (w6.alloc (.cells #[.bool p.la.th, .bool p.ne.th, .slice a3 p.la.bs.length c3, .int .u64 p.la.tk, .slice b3 p.ne.bs.length d3, .int .u64 p.ne.tk] 31)) (.slice a2 p.la.bs.length c2) p.la.bs ∧ OB (w6.alloc (.cells #[.bool p.la.th, .bool p.ne.th, .slice a3 p.la.bs.length c3, .int .u64 p.la.tk, .slice b3 p.ne.bs.length d3, .int .u64 p.ne.tk] 31)) (.slice b2 p.ne.bs.length d2) p.ne.bs ∧ OB (w6.alloc (.cells #[.bool p.la.th, .bool p.ne.th, .slice a3 p.la.bs.length c3, .int .u64 p.la.tk, .slice b3 p.ne.bs.length d3, .int .u64 p.ne.tk] 31)) (.slice a3 p.la.bs.length c3) p.la.bs ∧ OB (w6.alloc (.cells #[.bool p.la.th, .bool p.ne.th, .slice a3 p.la.bs.length c3, .int .u64 p.la.tk, .slice b3 p.ne.bs.length d3, .int .u64 p.ne.tk] 31)) (.slice b3 p.ne.bs.length d3) p.ne.bs ∧ (w6.alloc (.cells #[.bool p.la.th, .bool p.ne.th, .slice a3 p.la.bs.length c3, .int .u64 p.la.tk, .slice b3 p.ne.bs.length d3, .int .u64 p.ne.tk] 31)).heap[A1]? = some (.cells #[.bool p.la.th, .bool p.ne.th, .slice a1 p.la.bs.length c1, .int .u64 p.la.tk, .slice b1 p.ne.bs.length d1, .int .u64 p.ne.tk] 31 (0, 0)) ∧ (w6.alloc (.cells #[.bool p.la.th, .bool p.ne.th, .slice a3 p.la.bs.length c3, .int .u64 p.la.tk, .slice b3 p.ne.bs.length d3, .int .u64 p.ne.tk] 31)).heap[A2]? = some (.cells #[.bool p.la.th, .bool p.ne.th, .slice a2 p.la.bs.length c2, .int .u64 p.la.tk, .slice b2 p.ne.bs.length d2, .int .u64 p.ne.tk] 31 (0, 0)) ∧ (w6.alloc (.cells #[.bool p.la.th, .bool p.ne.th, .slice a3 p.la.bs.length c3, .int .u64 p.la.tk, .slice b3 p.ne.bs.length d3, .int .u64 p.ne.tk] 31)).heap[w6.heap.size]? = some (.cells #[.bool p.la.th, .bool p.ne.th, .slice a3 p.la.bs.length c3, .int .u64 p.la.tk, .slice b3 p.ne.bs.length d3, .int .u64 p.ne.tk] 31 (0, 0))) := ⟨D5.al k3, Chg.owns k3 p1 (fun _ _ h => h), Chg.owns k3 p2 (fun _ _ h => h), Chg.owns k3 p3 (fun _ _ h => h), Chg.owns k3 p4 (fun _ _ h => h), Chg.owns kB o1 (fun _ _ h => h), Chg.owns kB o2 (fun _ _ h => h), k3.heap x1, k3.heap x2, X3⟩
  clear D5 p1 p2 p3 p4 x1 x2 X3 o1 o2 k2 kB k3 n1 n2 HD5
  go_upto_region 36 with fail
  generalize w6.heap.size = A3 at *
  generalize w6.alloc (.cells #[.bool p.la.th, .bool p.ne.th, .slice a3 p.la.bs.length c3, .int .u64 p.la.tk, .slice b3 p.ne.bs.length d3, .int .u64 p.ne.tk] 31) = w7 at *
  obtain ⟨D7, p1, p2, p3, p4, p5, p6, x1, x2, x3⟩ := HD7.out
  have f0 : w7.cell? ⟨A1, 0, none⟩ = some (.bool p.la.th) := (cells_at x1 0).1
  have f1 : w7.cell? ⟨A1, 1, none⟩ = some (.bool p.ne.th) := (cells_at x1 1).1
  have f2 : w7.cell? ⟨A1, 2, none⟩ = some (.slice a1 p.la.bs.length c1) := (cells_at x1 2).1
  have f3 : w7.cell? ⟨A1, 3, none⟩ = some (.int .u64 p.la.tk) := (cells_at x1 3).1
  have f4 : w7.cell? ⟨A1, 4, none⟩ = some (.slice b1 p.ne.bs.length d1) := (cells_at x1 4).1
  have f5 : w7.cell? ⟨A1, 5, none⟩ = some (.int .u64 p.ne.tk) := (cells_at x1 5).1
  have g0 : w7.cell? ⟨A3, 0, none⟩ = some (.bool p.la.th) := (cells_at x3 0).1
  have g1 : w7.cell? ⟨A3, 1, none⟩ = some (.bool p.ne.th) := (cells_at x3 1).1
  have g2 : w7.cell? ⟨A3, 2, none⟩ = some (.slice a3 p.la.bs.length c3) := (cells_at x3 2).1
  have g3 : w7.cell? ⟨A3, 3, none⟩ = some (.int .u64 p.la.tk) := (cells_at x3 3).1
  have g4 : w7.cell? ⟨A3, 4, none⟩ = some (.slice b3 p.ne.bs.length d3) := (cells_at x3 4).1
  have g5 : w7.cell? ⟨A3, 5, none⟩ = some (.int .u64 p.ne.tk) := (cells_at x3 5).1
  have e1 := sameState_eq w7 p.la.th p.ne.th p.la.bs p.ne.bs p.la.tk p.ne.tk _ _ _ _ (p1.bs (by omega)) (p2.bs (by omega)) (p5.bs (by omega)) (p6.bs (by omega))
  clear D7 p1 p2 p3 p4 p5 p6 x1 x2 x3
  go_wp2_with fail
  go_at_call 18
  refine e1.mono ?_
  rintro e w8 ⟨rfl, k8⟩
  obtain ⟨D7, p1, p2, p3, p4, p5, p6, x1, x2, x3⟩ := HD7.out
  have HD8 : Hid (Dn W w1 w8 σ σ4 K V X MM fr hd ll B F p p ∧ OB w8 (.slice a1 p.la.bs.length c1) p.la.bs ∧ OB w8 (.slice b1 p.ne.bs.length d1) p.ne.bs ∧ OB w8 (.slice a2 p.la.bs.length c2) p.la.bs ∧ OB w8 (.slice b2 p.ne.bs.length d2) p.ne.bs ∧ OB w8 (.slice a3 p.la.bs.length c3) p.la.bs ∧ OB w8 (.slice b3 p.ne.bs.length d3) p.ne.bs ∧ w8.heap[A1]? = some (.cells #[.bool p.la.th, .bool p.ne.th, .slice a1 p.la.bs.length c1, .int .u64 p.la.tk, .slice b1 p.ne.bs.length d1, .int .u64 p.ne.tk] 31 (0, 0)) ∧ w8.heap[A2]? = some (.cells #[.bool p.la.th, .bool p.ne.th, .slice a2 p.la.bs.length c2, .int .u64 p.la.tk, .slice b2 p.ne.bs.length d2, .int .u64 p.ne.tk] 31 (0, 0)) ∧ w8.heap[A3]? = some (.cells #[.bool p.la.th, .bool p.ne.th, .slice a3 p.la.bs.length c3, .int .u64 p.la.tk, .slice b3 p.ne.bs.length d3, .int .u64 p.ne.tk] 31 (0, 0))) := ⟨D7.al k8, Chg.owns k8 p1 (fun _ _ h => h), Chg.owns k8 p2 (fun _ _ h => h), Chg.owns k8 p3 (fun _ _ h => h), Chg.owns k8 p4 (fun _ _ h => h), Chg.owns k8 p5 (fun _ _ h => h), Chg.owns k8 p6 (fun _ _ h => h), k8.heap x1, k8.heap x2, k8.heap x3⟩
  clear D7 p1 p2 p3 p4 p5 p6 x1 x2 x3 k8 e1 HD7 f0 g0 f1 g1 f2 g2 f3 g3 f4 g4 f5 g5
  obtain ⟨D7, p1, p2, p3, p4, p5, p6, x1, x2, x3⟩ := HD8.out
  have f0 : w8.cell? ⟨A2, 0, none⟩ = some (.bool p.la.th) := (cells_at x2 0).1
  have f1 : w8.cell? ⟨A2, 1, none⟩ = some (.bool p.ne.th) := (cells_at x2 1).1
  have f2 : w8.cell? ⟨A2, 2, none⟩ = some (.slice a2 p.la.bs.length c2) := (cells_at x2 2).1
  have f3 : w8.cell? ⟨A2, 3, none⟩ = some (.int .u64 p.la.tk) := (cells_at x2 3).1
  have f4 : w8.cell? ⟨A2, 4, none⟩ = some (.slice b2 p.ne.bs.length d2) := (cells_at x2 4).1
  have f5 : w8.cell? ⟨A2, 5, none⟩ = some (.int .u64 p.ne.tk) := (cells_at x2 5).1
  have g0 : w8.cell? ⟨A3, 0, none⟩ = some (.bool p.la.th) := (cells_at x3 0).1
  have g1 : w8.cell? ⟨A3, 1, none⟩ = some (.bool p.ne.th) := (cells_at x3 1).1
  have g2 : w8.cell? ⟨A3, 2, none⟩ = some (.slice a3 p.la.bs.length c3) := (cells_at x3 2).1
  have g3 : w8.cell? ⟨A3, 3, none⟩ = some (.int .u64 p.la.tk) := (cells_at x3 3).1
  have g4 : w8.cell? ⟨A3, 4, none⟩ = some (.slice b3 p.ne.bs.length d3) := (cells_at x3 4).1
  have g5 : w8.cell? ⟨A3, 5, none⟩ = some (.int .u64 p.ne.tk) := (cells_at x3 5).1
  have e1 := sameState_eq w8 p.la.th p.ne.th p.la.bs p.ne.bs p.la.tk p.ne.tk _ _ _ _ (p3.bs (by omega)) (p4.bs (by omega)) (p5.bs (by omega)) (p6.bs (by omega))
  have q0 : ∀ w', Kp w8 w' → w'.cell? ⟨A1, 2, none⟩ = some (.slice a1 p.la.bs.length c1) := fun w' k => k.cell (cells_at x1 2).1
  clear D7 p1 p2 p3 p4 p5 p6 x1 x2 x3
  go_wp2_with (first | (go_at_call 18; refine e1.mono ?_; rintro e w9 ⟨rfl, k9⟩; have q2 := q0 w9 k9) | fail)
  obtain ⟨D7, p1, p2, p3, p4, p5, p6, x1, x2, x3⟩ := HD8.out
  have HD9 : Hid (Dn W w1 w9 σ σ4 K V X MM fr hd ll B F p p ∧ OB w9 (.slice a1 p.la.bs.length c1) p.la.bs ∧ OB w9 (.slice b1 p.ne.bs.length d1) p.ne.bs ∧ OB w9 (.slice a2 p.la.bs.length c2) p.la.bs ∧ OB w9 (.slice b2 p.ne.bs.length d2) p.ne.bs ∧ w9.heap[A1]? = some (.cells #[.bool p.la.th, .bool p.ne.th, .slice a1 p.la.bs.length c1, .int .u64 p.la.tk, .slice b1 p.ne.bs.length d1, .int .u64 p.ne.tk] 31 (0, 0)) ∧ w9.heap[A2]? = some (.cells #[.bool p.la.th, .bool p.ne.th, .slice a2 p.la.bs.length c2, .int .u64 p.la.tk, .slice b2 p.ne.bs.length d2, .int .u64 p.ne.tk] 31 (0, 0))) := ⟨D7.al k9, Chg.owns k9 p1 (fun _ _ h => h), Chg.owns k9 p2 (fun _ _ h => h), Chg.owns k9 p3 (fun _ _ h => h), Chg.owns k9 p4 (fun _ _ h => h), k9.heap x1, k9.heap x2⟩
  clear D7 p1 p2 p3 p4 p5 p6 x1 x2 x3 k9 e1 HD8 q0 q2 f0 g0 f1 g1 f2 g2 f3 g3 f4 g4 f5 g5
  have hfl := HH.out.1.fl
  refine (HD9.out.1.owns (.slice a1 p.la.bs.length c1) p.la.bs M HD9.out.2.1 LL.out.1 hM hl1 (by first | omega | (simp; omega))).mono ?_
  rintro e w10 ⟨⟨ret0, rfl⟩, V0', X0', Dk, Fk⟩
  have HD10 : Hid (Dn W w1 w10 σ σ4 K V0' X0' MM (fr ++ [(M, p.la.bs)]) hd ll B F p p ∧ OB w10 (.slice a1 p.la.bs.length c1) p.la.bs ∧ OB w10 (.slice b1 p.ne.bs.length d1) p.ne.bs ∧ OB w10 (.slice a2 p.la.bs.length c2) p.la.bs ∧ OB w10 (.slice b2 p.ne.bs.length d2) p.ne.bs ∧ w10.heap[A1]? = some (.cells #[.bool p.la.th, .bool p.ne.th, .slice a1 p.la.bs.length c1, .int .u64 p.la.tk, .slice b1 p.ne.bs.length d1, .int .u64 p.ne.tk] 31 (0, 0)) ∧ w10.heap[A2]? = some (.cells #[.bool p.la.th, .bool p.ne.th, .slice a2 p.la.bs.length c2, .int .u64 p.la.tk, .slice b2 p.ne.bs.length d2, .int .u64 p.ne.tk] 31 (0, 0))) := ⟨Dk, HD9.out.2.1.fg Fk, HD9.out.2.2.1.fg Fk, HD9.out.2.2.2.1.fg Fk, HD9.out.2.2.2.2.1.fg Fk, Fk.heap31 HD9.out.2.2.2.2.2.1 (by decide) (by decide), Fk.heap31 HD9.out.2.2.2.2.2.2 (by decide) (by decide)⟩
  clear Dk Fk
  have u0 : w10.cell? ⟨A1, 4, none⟩ = some (.slice b1 p.ne.bs.length d1) := (cells_at HD10.out.2.2.2.2.2.1 4).1
  go_wp2_with fail
  go_at_call 36
  refine (HD10.out.1.owns (.slice b1 p.ne.bs.length d1) p.ne.bs (M + 1) HD10.out.2.2.1 LL.out.2.1 (fun e he => ?_) hl2 (by first | omega | (simp; omega))).mono ?_
  · simp only [List.mem_append, List.mem_singleton] at he
    have hM' : ∀ e, e ∈ hd ∨ e ∈ fr ∨ e ∈ ll → e.1 < M := fun e he => hM e (by rcases he with he | he | he <;> simp [he])
    have he2 : (e ∈ hd ∨ e ∈ fr ∨ e ∈ ll) ∨ (e = (M, p.la.bs)) := by grind
    rcases he2 with he | he
    · have := hM' e he; omega
    · subst he; simp
  rintro e w11 ⟨⟨ret1, rfl⟩, V1', X1', Dk, Fk⟩
  have HD11 : Hid (Dn W w1 w11 σ σ4 K V1' X1' MM (fr ++ [(M, p.la.bs)] ++ [(M + 1, p.ne.bs)]) hd ll B F p p ∧ OB w11 (.slice a1 p.la.bs.length c1) p.la.bs ∧ OB w11 (.slice b1 p.ne.bs.length d1) p.ne.bs ∧ OB w11 (.slice a2 p.la.bs.length c2) p.la.bs ∧ OB w11 (.slice b2 p.ne.bs.length d2) p.ne.bs ∧ w11.heap[A1]? = some (.cells #[.bool p.la.th, .bool p.ne.th, .slice a1 p.la.bs.length c1, .int .u64 p.la.tk, .slice b1 p.ne.bs.length d1, .int .u64 p.ne.tk] 31 (0, 0)) ∧ w11.heap[A2]? = some (.cells #[.bool p.la.th, .bool p.ne.th, .slice a2 p.la.bs.length c2, .int .u64 p.la.tk, .slice b2 p.ne.bs.length d2, .int .u64 p.ne.tk] 31 (0, 0))) := ⟨Dk, HD10.out.2.1.fg Fk, HD10.out.2.2.1.fg Fk, HD10.out.2.2.2.1.fg Fk, HD10.out.2.2.2.2.1.fg Fk, Fk.heap31 HD10.out.2.2.2.2.2.1 (by decide) (by decide), Fk.heap31 HD10.out.2.2.2.2.2.2 (by decide) (by decide)⟩
  clear Dk Fk
  have u1 : w11.cell? ⟨A2, 2, none⟩ = some (.slice a2 p.la.bs.length c2) := (cells_at HD11.out.2.2.2.2.2.2 2).1
  go_wp2_with fail
  go_at_call 36
  refine (HD11.out.1.owns (.slice a2 p.la.bs.length c2) p.la.bs (M + 2) HD11.out.2.2.2.1 LL.out.2.2.1 (fun e he => ?_) hl1 (by first | omega | (simp; omega))).mono ?_
  · simp only [List.mem_append, List.mem_singleton] at he
    have hM' : ∀ e, e ∈ hd ∨ e ∈ fr ∨ e ∈ ll → e.1 < M := fun e he => hM e (by rcases he with he | he | he <;> simp [he])
    have he2 : (e ∈ hd ∨ e ∈ fr ∨ e ∈ ll) ∨ (e = (M, p.la.bs) ∨ e = (M + 1, p.ne.bs)) := by grind
    rcases he2 with he | he
    · have := hM' e he; omega
    · rcases he with rfl | rfl <;> simp
  rintro e w12 ⟨⟨ret2, rfl⟩, V2', X2', Dk, Fk⟩
  have HD12 : Hid (Dn W w1 w12 σ σ4 K V2' X2' MM (fr ++ [(M, p.la.bs)] ++ [(M + 1, p.ne.bs)] ++ [(M + 2, p.la.bs)]) hd ll B F p p ∧ OB w12 (.slice a1 p.la.bs.length c1) p.la.bs ∧ OB w12 (.slice b1 p.ne.bs.length d1) p.ne.bs ∧ OB w12 (.slice a2 p.la.bs.length c2) p.la.bs ∧ OB w12 (.slice b2 p.ne.bs.length d2) p.ne.bs ∧ w12.heap[A1]? = some (.cells #[.bool p.la.th, .bool p.ne.th, .slice a1 p.la.bs.length c1, .int .u64 p.la.tk, .slice b1 p.ne.bs.length d1, .int .u64 p.ne.tk] 31 (0, 0)) ∧ w12.heap[A2]? = some (.cells #[.bool p.la.th, .bool p.ne.th, .slice a2 p.la.bs.length c2, .int .u64 p.la.tk, .slice b2 p.ne.bs.length d2, .int .u64 p.ne.tk] 31 (0, 0))) := ⟨Dk, HD11.out.2.1.fg Fk, HD11.out.2.2.1.fg Fk, HD11.out.2.2.2.1.fg Fk, HD11.out.2.2.2.2.1.fg Fk, Fk.heap31 HD11.out.2.2.2.2.2.1 (by decide) (by decide), Fk.heap31 HD11.out.2.2.2.2.2.2 (by decide) (by decide)⟩
  clear Dk Fk
  have u2 : w12.cell? ⟨A2, 4, none⟩ = some (.slice b2 p.ne.bs.length d2) := (cells_at HD12.out.2.2.2.2.2.2 4).1
  go_wp2_with fail
  go_at_call 36
  refine (HD12.out.1.owns (.slice b2 p.ne.bs.length d2) p.ne.bs (M + 3) HD12.out.2.2.2.2.1 LL.out.2.2.2 (fun e he => ?_) hl2 (by first | omega | (simp; omega))).mono ?_
  · simp only [List.mem_append, List.mem_singleton] at he
    have hM' : ∀ e, e ∈ hd ∨ e ∈ fr ∨ e ∈ ll → e.1 < M := fun e he => hM e (by rcases he with he | he | he <;> simp [he])
    have he2 : (e ∈ hd ∨ e ∈ fr ∨ e ∈ ll) ∨ (e = (M, p.la.bs) ∨ e = (M + 1, p.ne.bs) ∨ e = (M + 2, p.la.bs)) := by grind
    rcases he2 with he | he
    · have := hM' e he; omega
    · rcases he with rfl | rfl | rfl <;> simp
  rintro e w13 ⟨⟨ret3, rfl⟩, V3', X3', Dk, Fk⟩
  have HD13 : Hid (Dn W w1 w13 σ σ4 K V3' X3' MM (fr ++ [(M, p.la.bs)] ++ [(M + 1, p.ne.bs)] ++ [(M + 2, p.la.bs)] ++ [(M + 3, p.ne.bs)]) hd ll B F p p ∧ OB w13 (.slice a1 p.la.bs.length c1) p.la.bs ∧ OB w13 (.slice b1 p.ne.bs.length d1) p.ne.bs ∧ OB w13 (.slice a2 p.la.bs.length c2) p.la.bs ∧ OB w13 (.slice b2 p.ne.bs.length d2) p.ne.bs ∧ w13.heap[A1]? = some (.cells #[.bool p.la.th, .bool p.ne.th, .slice a1 p.la.bs.length c1, .int .u64 p.la.tk, .slice b1 p.ne.bs.length d1, .int .u64 p.ne.tk] 31 (0, 0)) ∧ w13.heap[A2]? = some (.cells #[.bool p.la.th, .bool p.ne.th, .slice a2 p.la.bs.length c2, .int .u64 p.la.tk, .slice b2 p.ne.bs.length d2, .int .u64 p.ne.tk] 31 (0, 0))) := ⟨Dk, HD12.out.2.1.fg Fk, HD12.out.2.2.1.fg Fk, HD12.out.2.2.2.1.fg Fk, HD12.out.2.2.2.2.1.fg Fk, Fk.heap31 HD12.out.2.2.2.2.2.1 (by decide) (by decide), Fk.heap31 HD12.out.2.2.2.2.2.2 (by decide) (by decide)⟩
  clear Dk Fk
  go_wp2_with fail
  go_ret
  obtain ⟨D, _⟩ := HD13.out
  exact ⟨rfl, StP.al ⟨σ4, _, _, [(M, p.la.bs), (M + 1, p.ne.bs), (M + 2, p.la.bs), (M + 3, p.ne.bs)], p, by simpa using D.bk, D.x, D.y, D.sg, D.ol, by simp⟩ HH.out.2⟩
end
end Go.Proofs.Ytibpbemenjgncaa
