import Derived.Test.YtfmiicbaooaheaaDoorOk
namespace Go.Proofs.YtfmiicbaooaheaaDoor
open Go.ChangeShapes Go.WideShapes Go.ChangeAt Go.RowKit Go.Shelf
set_option linter.unusedVariables false
attribute [local go_sem] Oper.semAt_some
theorem results_cell3 {fn : Func} {p : Tmp} (h : fn.results = #[.cell p 3]) (tmps : Array Value) (w : World) (b : Nat) (y : Int)
    (hp : tmps.getD p undef = .pointer (some ⟨b, 0, none⟩)) (hb : w.cell? ⟨b, 0, none⟩ = some (.int .i64 y)) :
    (results fn tmps).run Tryd.prog w = .ok (.int .i64 y) w := by
  have hp' : tmps[p]?.getD undef = .pointer (some ⟨b, 0, none⟩) := by simpa using hp
  simp [results, h, hp', asAddr, go_sem, hb]
theorem cell1 {w : World} {b : Nat} {v : Value} {T : TypeId} (h : w.heap[b]? = some (.cells #[v] T (0, 0))) : w.cell? ⟨b, 0, none⟩ = some v ∧ w.frozen? ⟨b, 0, none⟩ = false := by
  have := cells_at h 0
  simpa using this
/-- While two rows are held side by side. -/
structure PaI (w6 W : World) (b8 k : Nat) : Prop where
  k6 : Chg w6 W (fun i => i = b8)
  bx : W.heap[b8]? = some (.cells #[.int .i64 (k : Nat)] 3 (0, 0))
theorem PaI.two {w6 W W' : World} {b8 k : Nat} (h : PaI w6 W b8 k) (h8 : b8 < w6.heap.size) (hc : Chg W W' (Two w6.heap.size)) : PaI w6 W' b8 k :=
  ⟨Chg.trans h.k6 hc (fun i hi e => by rcases e with e | e <;> omega), hc.heap h.bx (by rintro (e | e) <;> omega)⟩
set_option maxHeartbeats 4000000 in
set_option maxRecDepth 10000 in
/-- Part, where the one row begins with the other. -/
theorem part_pre (w : World) (c : Int) (a b : Option Addr) (A B : List Ob) (capA capB : Nat) (hA : ObI w a A) (hB : ObI w b B) (hbA : A.length ≤ 1000000) (hbB : B.length ≤ 1000000) (hokA : ∀ x ∈ A, x.ok) (hokB : ∀ x ∈ B, x.ok) (zs : List Ob) (hz : own c B = own c A ++ zs) (r : Int) (hr : r = if zs = [] then -1 else ((own c A).length : Int)) :
    Calls Tryd.prog 8 #[.int .i64 c, .slice a A.length capA, .slice b B.length capB] w fun e w' => e = .returned (.int .i64 r) ∧ Kp w w' := by
  obtain ⟨w1, hw1⟩ : ∃ w1, w1 = w.alloc (.cells #[.int .i64 0] 3) := ⟨_, rfl⟩
  have k1 : Kp w w1 := by rw [hw1]; exact Kp.al _ _
  have g1 : w1.heap[w.heap.size]? = some (.cells #[.int .i64 0] 3 (0, 0)) := by rw [hw1]; exact heap_alloc_new w _
  have A1 := of_any w1 c b B capB (hB.kp k1) hbB hokB
  have K0 : Hid (Kp w w1 ∧ w1.heap[w.heap.size]? = some (.cells #[.int .i64 0] 3 (0, 0)) ∧ ObI w a A ∧ A.length ≤ 1000000 ∧ (∀ x ∈ A, x.ok) ∧ own c B = own c A ++ zs ∧ (own c B).length ≤ 1000000) := ⟨k1, g1, hA, hbA, hokA, hz, Nat.le_trans (own_le c B) hbB⟩
  have HR : Hid (r = if zs = [] then -1 else ((own c A).length : Int)) := hr
  obtain ⟨nA, hnA⟩ : ∃ nA, nA = A.length := ⟨_, rfl⟩
  have HA : Hid (nA = A.length) := hnA
  rw [← hnA]
  clear k1 g1 hA hB hbA hbB hokA hokB hz hr hnA
  generalize B.length = nB at A1 ⊢
  refine (callsIn_wide (n := 3)).1 ?_
  refine callsIn_of_wp_marks Tryd.func8 rfl trivial ?_ rfl
  simp only [Tryd.ntmps8, List.size_toArray, List.length_cons, List.length_nil, Nat.reduceAdd, Nat.reduceSub, Array.replicate_succ, Array.replicate_zero, List.push_toArray, List.append_toArray, List.nil_append, List.cons_append]
  gi_wp2_with fail
  rw [← hw1]
  clear hw1
  refine ⟨trivial, ?_⟩
  gi_at_call 10
  refine (callsIn_wide.2 A1).mono ?_
  rintro e w2 ⟨bA, bC, a1, cap1, rfl, hx, k2⟩
  have A2 := collect_any w2 bA bC c B a1 cap1 _ hx
  have K1 : Hid (Kp w w2 ∧ w2.heap[w.heap.size]? = some (.cells #[.int .i64 0] 3 (0, 0))) := ⟨K0.out.1.trans k2, k2.heap K0.out.2.1⟩
  clear A1 hx k2
  gi_wp2_with fail
  refine ⟨trivial, ?_⟩
  gi_at_call 15
  refine (callsIn_wide.2 A2).mono ?_
  rintro e w3 ⟨vY, rfl, hoY, k3, hnY⟩
  obtain ⟨aY, cY, hv, hcY, hIY⟩ := hoY.sh
  obtain ⟨nY, hnY2⟩ : ∃ nY, nY = (own c B).length := ⟨_, rfl⟩
  rw [← hnY2] at hv hcY
  subst hv
  obtain ⟨w4, hw4⟩ : ∃ w4, w4 = w3.alloc (.cells #[.slice aY nY cY] 25) := ⟨_, rfl⟩
  have k4 : Kp w3 w4 := by rw [hw4]; exact Kp.al _ _
  have g4 : w4.heap[w3.heap.size]? = some (.cells #[.slice aY nY cY] 25 (0, 0)) := by rw [hw4]; exact heap_alloc_new _ _
  obtain ⟨w5, hw5⟩ : ∃ w5, w5 = w4.alloc (.cells #[.int .i64 0] 3) := ⟨_, rfl⟩
  have k5 : Kp w4 w5 := by rw [hw5]; exact Kp.al _ _
  have g5 : w5.heap[w4.heap.size]? = some (.cells #[.int .i64 0] 3 (0, 0)) := by rw [hw5]; exact heap_alloc_new _ _
  have s4 : w4.heap.size = w3.heap.size + 1 := by rw [hw4]; simp
  rw [s4] at g5
  have kw5 : Kp w w5 := ((K1.out.1.trans k3).trans k4).trans k5
  have A3 := of_any w5 c a A capA (K0.out.2.2.1.kp kw5) K0.out.2.2.2.1 K0.out.2.2.2.2.1
  rw [← HA.out] at A3
  have K2 : Hid (Kp w w5 ∧ w5.heap[w.heap.size]? = some (.cells #[.int .i64 0] 3 (0, 0)) ∧ w5.heap[w3.heap.size]? = some (.cells #[.slice aY nY cY] 25 (0, 0)) ∧ w5.heap[w3.heap.size + 1]? = some (.cells #[.int .i64 0] 3 (0, 0)) ∧ ObI w5 aY (own c B) ∧ (∀ b o, aY = some ⟨b, o, none⟩ → b < w3.heap.size) ∧ nY = (own c B).length ∧ w3.heap.size + 1 < w5.heap.size ∧ w.heap.size < w3.heap.size) := by
    refine ⟨kw5, ((k3.trans k4).trans k5).heap K1.out.2, k5.heap g4, g5, hIY.kp (k4.trans k5), fun b o e => own_lt hoY (by rw [e]; simp [Value.ownBlock]), hnY2, hp_lt g5, hp_lt (k3.heap K1.out.2)⟩
  clear A2 hoY k3 hnY hIY hnY2 k4 g4 k5 g5 kw5 hcY K1 s4
  gi_wp2_with fail
  rw [← hw4, ← hw5]
  clear hw4 hw5
  refine ⟨trivial, ?_⟩
  gi_at_call 10
  refine (callsIn_wide.2 A3).mono ?_
  rintro e w6 ⟨bA2, bC2, a2, cap2, rfl, hx2, k6⟩
  have hseq := of_seq w6 w5.heap.size w6.heap.size 1 bA2 bC2 c A a2 cap2 hx2
  have K3 : Hid (Kp w w6 ∧ w6.heap[w.heap.size]? = some (.cells #[.int .i64 0] 3 (0, 0)) ∧ w6.heap[w3.heap.size]? = some (.cells #[.slice aY nY cY] 25 (0, 0)) ∧ w6.heap[w3.heap.size + 1]? = some (.cells #[.int .i64 0] 3 (0, 0)) ∧ ObI w6 aY (own c B) ∧ (∀ b o, aY = some ⟨b, o, none⟩ → b < w3.heap.size) ∧ nY = (own c B).length ∧ w3.heap.size + 1 < w5.heap.size ∧ w.heap.size < w3.heap.size ∧ oBx w5.heap.size w6.heap.size bA2 bC2 c A a2 cap2 w6 ∧ w5.heap.size ≤ w6.heap.size ∧ own c B = own c A ++ zs ∧ (own c B).length ≤ 1000000) := by
    obtain ⟨p1, p2, p3, p4, p5, p6, p7, p9, p10⟩ := K2.out
    exact ⟨p1.trans k6, k6.heap p2, k6.heap p3, k6.heap p4, p5.kp k6, p6, p7, p9, p10, hx2, k6.size, K0.out.2.2.2.2.2.1, K0.out.2.2.2.2.2.2⟩
  clear A3 hx2 k6 K2 K0
  gi_wp2_with fail
  refine range_own (gf := 17) rfl (enters_of Tryd.func17 (by kernel_rfl) rfl) hseq (fun _ _ => rfl)
    (fun _ k W => PaI w6 W (w3.heap.size + 1) k)
    (fun _ _ => False) ?_ (fun _ _ _ h _ => h) ?_ ?_ ?_
    (fun _ k a' W => ∃ Bx, w6.heap.size + 2 ≤ Bx ∧ W.heap[Bx]? = some (.cells #[.int .u64 (nth (own c A) k).t, .int .i64 (nth (own c A) k).c, .int .i64 (nth (own c A) k).k, .int .u32 (nth (own c A) k).p, .int .u32 (nth (own c A) k).a, .int .u32 (nth (own c A) k).b] 31 (0, 0)) ∧
      a' = { tmps := #[Value.int IntKind.i64 c, Value.slice a nA capA, Value.slice b nB capB, undef, undef, undef, Value.pointer (some { block := w.heap.size, off := 0 }), Value.pointer (some { block := w3.heap.size, off := 0 }), Value.pointer (some { block := w3.heap.size + 1, off := 0 }), .pointer (some ⟨Bx, 0, none⟩), Value.int IntKind.i64 c, Value.slice b nB capB, Value.func (Fn.func 17) #[] #[Value.pointer (some { block := bA, off := 0 }), Value.pointer (some { block := bC, off := 0 })], Value.slice aY nY cY, Value.int IntKind.i64 c, Value.slice a nA capA, Value.func (Fn.func 17) #[] #[Value.pointer (some { block := bA2, off := 0 }), Value.pointer (some { block := bC2, off := 0 })], Value.agg #[.int .u64 (nth (own c A) k).t, .int .i64 (nth (own c A) k).c, .int .i64 (nth (own c A) k).k, .int .u32 (nth (own c A) k).p, .int .u32 (nth (own c A) k).a, .int .u32 (nth (own c A) k).b], undef, undef, undef, undef, undef, undef, undef, undef, undef, undef, undef, undef, undef, undef, undef, undef, undef, undef, undef, undef], defers := [] }) ?_ ?assign ?body ?done (fun _ _ h => h.elim)
  · rintro _ k A' C hI hC
    obtain ⟨p1, p2, p3, p4, p5, p6, p7, p9, p10, p11, p12, p13, p14⟩ := K3.out
    exact hI.two (by omega) hC
  · rintro _ A' C D hAC hK hx
    exact hK (hx.two hAC)
  · rintro _ A' C D hK hCD hx
    exact (hK hx).two hCD
  · intro _ W W1 hW hs hG
    obtain ⟨p1, p2, p3, p4, p5, p6, p7, p9, p10, p11, p12, p13, p14⟩ := K3.out
    have hq : Kp w6 W1 := Kp.trans hW hG
    exact ⟨⟨hq.any, hq.heap p4⟩, hG⟩
  · rintro _ k a' A' C ⟨Bx, hBx, h1, h2⟩ hC
    exact ⟨Bx, hBx, hC.heap h1 (by rintro (e | e) <;> omega), h2⟩
  case assign =>
    rintro _ k W K' hk hI hs hK'
    unfold oArgs Ob.v
    clear hI hk
    gi_wp2
    exact hK' _ _ (Kp.al _ _) ⟨W.heap.size, hs, heap_alloc_new W _, rfl⟩
  case body =>
    rintro _ k a' W hk hI ⟨Bx, hBx, hbx, rfl⟩ hs
    obtain ⟨p1, p2, p3, p4, p5, p6, p7, p9, p10, p11, p12, p13, p14⟩ := K3.out
    have hlen : (own c B).length = (own c A).length + zs.length := by rw [p13, List.length_append]
    have hkB : k < (own c B).length := by omega
    have hxe : nth (own c A) k = nth (own c B) k := by
      rw [nth_eq hk, nth_eq hkB]
      have : (own c B)[k]? = some (own c A)[k] := by rw [p13, List.getElem?_append_left hk, List.getElem?_eq_getElem hk]
      rw [List.getElem?_eq_getElem hkB] at this
      exact (Option.some.inj this).symm
    obtain ⟨g, o, rfl, hrd⟩ : ∃ g o, aY = some ⟨g, o, none⟩ ∧ RdO w6 g o (own c B) := by
      rcases p5 with e | e
      · rw [e] at hkB; simp at hkB
      · exact e
    have hg := p6 g o rfl
    have y := (hrd.chg hI.k6 (by omega)).c k hkB
    rw [← nth_eq hkB, ← hxe] at y
    obtain ⟨y0, y1, y2, y3, y4, y5⟩ := y
    have t0 := (cells_at hbx 0).1
    have t1 := (cells_at hbx 1).1
    have t2 := (cells_at hbx 2).1
    have t3 := (cells_at hbx 3).1
    have t4 := (cells_at hbx 4).1
    have t5 := (cells_at hbx 5).1
    simp only [List.getElem?_toArray, List.getElem?_cons_zero, List.getElem?_cons_succ] at t0 t1 t2 t3 t4 t5
    have c7 := (cell1 (hI.k6.heap p3 (by omega))).1
    obtain ⟨c8, f8⟩ := cell1 hI.bx
    have hd : (((k : Nat) : Int) == (nY : Int)) = false := by simp; omega
    have hkn : k < nY := by omega
    have HN : Hid ((∀ i, Two w6.heap.size i → ((W.setCell ⟨w3.heap.size + 1, 0, none⟩ (.int .i64 ((k : Nat) + 1 : Int))).drew).heap[i]? = W.heap[i]?) ∧ PaI w6 ((W.setCell ⟨w3.heap.size + 1, 0, none⟩ (.int .i64 ((k : Nat) + 1 : Int))).drew) (w3.heap.size + 1) (k + 1) ∧ Chg W ((W.setCell ⟨w3.heap.size + 1, 0, none⟩ (.int .i64 ((k : Nat) + 1 : Int))).drew) (fun i => i = w3.heap.size + 1) ∧ w3.heap.size + 1 < w5.heap.size) := by
      have hcW : Chg W ((W.setCell ⟨w3.heap.size + 1, 0, none⟩ (.int .i64 ((k : Nat) + 1 : Int))).drew) (fun i => i = w3.heap.size + 1) := (Chg.setCell (S := fun i => i = w3.heap.size + 1) (Chg.refl W _) (.inl rfl) _).drew
      refine ⟨fun i hi => hcW.block i (by rcases hi with e | e <;> omega) (by rcases hi with e | e <;> omega), ⟨Chg.trans hI.k6 hcW (fun _ _ e => e), ?_⟩, hcW, p9⟩
      rw [show ((k + 1 : Nat) : Int) = (k : Nat) + 1 by omega]
      exact heap_setCell_same W (w3.heap.size + 1) 0 _ 3 _ hI.bx
    have hk6 : k ≤ 1000000 := by omega
    clear hI hbx hBx hs p1 p2 p3 p4 p5 p6 p7 p9 p10 p11 p12 p13 p14 hrd hg hseq hxe hlen hkB hk
    generalize nth (own c A) k = xx at *
    obtain ⟨xt, xc, xk, xp, xa, xb⟩ := xx
    simp only at t0 t1 t2 t3 t4 t5 y0 y1 y2 y3 y4 y5 ⊢
    gi_wp2_with fail
    refine reg8_5 _ _ W _ _ Bx g o k nY cY xt xc xk xp xa xb _ (by rintro ⟨_, _, h⟩; exact h) (fun _ _ _ h => h) hd hkn ⟨c8, c7, t0, t1, t2, t3, t4, t5, y0, y1, y2, y3, y4, y5⟩ ?_
    have c8' : W.drew.cell? ⟨w3.heap.size + 1, 0, none⟩ = some (.int .i64 (k : Nat)) := c8
    have f8' : W.drew.frozen? ⟨w3.heap.size + 1, 0, none⟩ = false := f8
    clear c8 f8 c7 t0 t1 t2 t3 t4 t5 y0 y1 y2 y3 y4 y5 hd hkn
    gi_wp2
    exact ⟨HN.out.1, HN.out.2.1, fun x => x.chg HN.out.2.2.1 (fun j h1 h2 e => by have := HN.out.2.2.2; omega)⟩
  case done =>
    rintro _ W hI hD
    obtain ⟨p1, p2, p3, p4, p5, p6, p7, p9, p10, p11, p12, p13, p14⟩ := K3.out
    have hlen : (own c B).length = (own c A).length + zs.length := by rw [p13, List.length_append]
    have kw : Kp w W := Chg.trans p1 hI.k6 (fun i hi e => by omega)
    have h6 := hI.k6.heap p2 (by omega)
    have c7 := (cell1 (hI.k6.heap p3 (by omega))).1
    obtain ⟨c8, _⟩ := cell1 hI.bx
    obtain ⟨c6, f6⟩ := cell1 h6
    have hpz : zs ≠ [] → 0 < zs.length := fun h => List.length_pos_iff.2 h
    generalize hnX : (own c A).length = nX at c8 hlen
    have hx6 : nX ≤ 1000000 := by omega
    by_cases hz : zs = []
    · have hlt : ¬ (nX : Int) < nY := by rw [hz] at hlen; simp at hlen; omega
      have HF : Hid (r = (-1) ∧ Kp w (W.setCell ⟨w.heap.size, 0, none⟩ (.int .i64 (-1))) ∧ Mks w.heap.size (W.setCell ⟨w.heap.size, 0, none⟩ (.int .i64 (-1))) [w6.heap.size] ∧ (W.setCell ⟨w.heap.size, 0, none⟩ (.int .i64 (-1))).cell? ⟨w.heap.size, 0, none⟩ = some (.int .i64 (-1)) ∧ w.heap.size < w6.heap.size) := by
        refine ⟨by rw [HR.out, if_pos hz], Chg.setCell kw (.inr (Nat.le_refl _)) _, ⟨?_, by simp, by intro x hx; simp at hx; omega⟩, (cell1 (heap_setCell_same W w.heap.size 0 _ 3 _ h6)).1, by omega⟩
        intro x hx
        simp at hx
        subst hx
        rw [heap_setCell_other _ _ _ _ (show w6.heap.size ≠ w.heap.size by omega)]
        exact hD
      clear hI hD p1 p2 p3 p4 p5 p6 p7 p9 p10 p11 p12 p13 p14 kw h6 hseq K3 hlen
      gi_wp2_with fail
      refine leaves_mks (s := w.heap.size) [w6.heap.size] _ HF.out.2.2.1 (fun W' hc' => ?_)
      refine ⟨_, results_cell3 rfl _ W' w.heap.size (-1) rfl (hc'.cell' (fun e => by have := e.2; simp at this; have := HF.out.2.2.2.2; omega) HF.out.2.2.2.1), by rw [HF.out.1], Chg.trans HF.out.2.1 hc' (fun i hi e => by have := e.1; omega)⟩
    · have hlt : (nX : Int) < nY := by have := hpz hz; omega
      have HF : Hid (r = (nX : Nat) ∧ Kp w (W.setCell ⟨w.heap.size, 0, none⟩ (.int .i64 (nX : Nat))) ∧ Mks w.heap.size (W.setCell ⟨w.heap.size, 0, none⟩ (.int .i64 (nX : Nat))) [w6.heap.size] ∧ (W.setCell ⟨w.heap.size, 0, none⟩ (.int .i64 (nX : Nat))).cell? ⟨w.heap.size, 0, none⟩ = some (.int .i64 (nX : Nat)) ∧ w.heap.size < w6.heap.size) := by
        refine ⟨by rw [HR.out, if_neg hz, hnX], Chg.setCell kw (.inr (Nat.le_refl _)) _, ⟨?_, by simp, by intro x hx; simp at hx; omega⟩, (cell1 (heap_setCell_same W w.heap.size 0 _ 3 _ h6)).1, by omega⟩
        intro x hx
        simp at hx
        subst hx
        rw [heap_setCell_other _ _ _ _ (show w6.heap.size ≠ w.heap.size by omega)]
        exact hD
      clear hI hD p1 p2 p3 p4 p5 p6 p7 p9 p10 p11 p12 p13 p14 kw h6 hseq K3 hlen
      gi_wp2_with fail
      refine leaves_mks (s := w.heap.size) [w6.heap.size] _ HF.out.2.2.1 (fun W' hc' => ?_)
      refine ⟨_, results_cell3 rfl _ W' w.heap.size (nX : Nat) rfl (hc'.cell' (fun e => by have := e.2; simp at this; have := HF.out.2.2.2.2; omega) HF.out.2.2.2.1), by rw [HF.out.1], Chg.trans HF.out.2.1 hc' (fun i hi e => by have := e.1; omega)⟩
end Go.Proofs.YtfmiicbaooaheaaDoor
