import Derived.Test.YtnblhaeojlpmmaaTg
import Derived.Test.YtnblhaeojlpmmaaQf
namespace Go.Proofs.Ytnblhaeojlpmmaa
open Go.ChangeShapes Go.WideShapes Go.ChangeAt Go.RowKit
set_option linter.unusedVariables false
/-- What lent leaves: a state in memory of its own, all of it lent. -/
structure LtE (w : World) (σ : Nat → Nat × Nat) (K : Nat) (U V : Nat → Value) (X : Nat → List Value) (G H : List (List Int)) (O R : List (Nat × Nat × Int)) (L D E : List (List Mg)) (lq ls N1 N2 : List Mg) (g1 c1 g2 c2 : Nat) (w' : World) (σ' : Nat → Nat × Nat) (V' : Nat → Value) (X' : Nat → List Value) : Prop where
  bk : Bk w' σ' K U V' X' (G ++ lq.map (fun m => m.bs ++ mk8) ++ ls.map (fun m => m.bs ++ mk8)) O H R (L ++ [N1] ++ [N2]) D E
  n1 : N1.length = lq.length + 3
  n2 : N2.length = ls.length + 3
  s1 : Sm (lq ++ List.replicate 3 (mz 555)) N1
  s2 : Sm (ls ++ List.replicate 3 (mz 555)) N2
  o1 : OM w' (.slice (some ⟨g1, 0, none⟩) (lq.length + 3) c1) N1
  o2 : OM w' (.slice (some ⟨g2, 0, none⟩) (ls.length + 3) c2) N2
  b1 : ∀ m ∈ N1, Bs w' m.v m.bs ∧ ∀ k, blk m.v = some k → (σ' k).1 = 2
  b2 : ∀ m ∈ N2, Bs w' m.v m.bs ∧ ∀ k, blk m.v = some k → (σ' k).1 = 2
  lg1 : (σ' g1).1 = 6
  lg2 : (σ' g2).1 = 6
  ch : Chg w w' (fun b => (σ b).1 = 1)
  x : Ext w σ σ'
  v8 : V' 8 = V 8
  x6 : X' 6 = X 6 ++ [.slice (some ⟨g1, 0, none⟩) (lq.length + 3) c1] ++ [.slice (some ⟨g2, 0, none⟩) (ls.length + 3) c2]
/-- Blocks that are nobody's are written. -/
theorem LrE.more {w w1 w2 : World} {σ σ1 : Nat → Nat × Nat} {K : Nat} {U V V1 : Nat → Value} {X X1 : Nat → List Value} {G H : List (List Int)} {O R : List (Nat × Nat × Int)} {L D E : List (List Mg)} {l N : List Mg} {g c : Nat} (h : LrE w σ K U V X G H O R L D E l N g c w1 σ1 V1 X1) {S : Nat → Prop} (hc : Chg w1 w2 S) (hS : ∀ b, S b → (σ1 b).1 = 0) (hS2 : ∀ b, b < w.heap.size → S b → (σ b).1 = 1) : LrE w σ K U V X G H O R L D E l N g c w2 σ1 V1 X1 :=
  ⟨h.bk.chg hc hS, h.n, h.s, hc.owns h.o (fun b hb e => by simp [Value.ownBlock] at hb; subst hb; have := hS g e; rw [h.lg] at this; simp at this), fun m hm => ⟨(h.b m hm).1.chg hc (fun k hk e => by have := hS k e; have := (h.b m hm).2 k hk; omega), (h.b m hm).2⟩, h.lg, Chg.trans h.ch hc hS2, h.x, h.v8, h.x6, h.nw⟩
theorem Kp.cls {W w w' : World} {σ : Nat → Nat × Nat} (h : Kp W w) (hz : ∀ k, k < W.heap.size → (σ k).1 = 0) (hc : Chg w w' (fun b => (σ b).1 = 1)) : Kp W w' := Chg.trans h hc (fun i hi e => by have := hz i hi; omega)
set_option maxHeartbeats 4000000 in
set_option maxRecDepth 10000 in
theorem lent_any (W w : World) (σ : Nat → Nat × Nat) (K : Nat) (U V : Nat → Value) (X : Nat → List Value) (G H : List (List Int)) (O R : List (Nat × Nat × Int)) (L D E : List (List Mg)) (h : Bk w σ K U V X G O H R L D E) (hW : Kp W w) (hσ : ∀ k, k < W.heap.size → (σ k).1 = 0) (x : SV) (hx : x.rd W) (hl1 : x.lq.length ≤ 1048576) (hl2 : x.ls.length ≤ 1048576) (hG : G.length + x.lq.length < 1000000000) (hL : L.length + 1 < 1000000) :
    Calls Try.prog 35 #[.pointer (some ⟨K, 8, none⟩), .agg x.cs] w fun e w' => ∃ g1 c1 g2 c2, e = .returned (.agg #[.int .i64 x.ac, .int .i64 x.rc, .int .i64 x.q, .int .i64 x.t, .int .i64 x.lo, .slice (some ⟨g1, 0, none⟩) x.lq.length c1, .slice (some ⟨g2, 0, none⟩) x.ls.length c2]) ∧ ∃ N1 N2 σ' V' X', LtE w σ K U V X G H O R L D E x.lq x.ls N1 N2 g1 c1 g2 c2 w' σ' V' X' := by
  unfold SV.cs
  have hz := h.m.fz
  obtain ⟨va, c, eva⟩ := hx.hq.vshape
  obtain ⟨vb, d, evb⟩ := hx.hs.vshape
  have RQ : Hid (∀ wr, Kp W wr → RdL wr x.vq x.lq ∧ RdL wr x.vs x.ls) := fun wr k => ⟨hx.hq.kp k, hx.hs.kp k⟩
  have HB : Hid (Bk w σ K U V X G O H R L D E) := h
  have HW : Hid (Kp W w ∧ ∀ k, k < W.heap.size → (σ k).1 = 0) := ⟨hW, hσ⟩
  rw [eva, evb] at RQ ⊢
  obtain ⟨n, hn⟩ : ∃ n, n = x.lq.length := ⟨_, rfl⟩
  obtain ⟨m, hm⟩ : ∃ m, m = x.ls.length := ⟨_, rfl⟩
  obtain ⟨ac, hac⟩ : ∃ ac, ac = x.ac := ⟨_, rfl⟩
  obtain ⟨rc, hrc⟩ : ∃ rc, rc = x.rc := ⟨_, rfl⟩
  obtain ⟨q, hq⟩ : ∃ q, q = x.q := ⟨_, rfl⟩
  obtain ⟨t, ht⟩ : ∃ t, t = x.t := ⟨_, rfl⟩
  obtain ⟨lo, hlo⟩ : ∃ lo, lo = x.lo := ⟨_, rfl⟩
  have e1 : Hid (n = x.lq.length ∧ m = x.ls.length) := ⟨hn, hm⟩
  rw [← hn] at RQ ⊢
  rw [← hm] at RQ ⊢
  rw [← hac, ← hrc, ← hq, ← ht, ← hlo]
  obtain ⟨A, hA⟩ : ∃ A, A = w.heap.size := ⟨_, rfl⟩
  obtain ⟨C, hC⟩ : ∃ C, C = A + 1 := ⟨_, rfl⟩
  obtain ⟨T, hT⟩ : ∃ T, T = C + 1 := ⟨_, rfl⟩
  have EQ : Hid (A = w.heap.size ∧ C = A + 1 ∧ T = C + 1) := ⟨hA, hC, hT⟩
  obtain ⟨w0, hw0⟩ : ∃ w0, w0 = ((w.alloc (.cells #[.int .i64 ac, .int .i64 rc, .int .i64 q, .int .i64 t, .int .i64 lo, .slice va n c, .slice vb m d] 64)).alloc (.cells #[.int .i64 0, .int .i64 0, .int .i64 0, .int .i64 0, .int .i64 0, .slice none 0 0, .slice none 0 0] 64)).alloc (.cells #[.int .i64 ac, .int .i64 rc, .int .i64 q, .int .i64 t, .int .i64 lo, .slice none 0 0, .slice none 0 0] 64) := ⟨_, rfl⟩
  have H0 : Hid (Kp w w0 ∧ w0.heap[A]? = some (.cells #[.int .i64 ac, .int .i64 rc, .int .i64 q, .int .i64 t, .int .i64 lo, .slice va n c, .slice vb m d] 64 (0, 0)) ∧ w0.heap[C]? = some (.cells #[.int .i64 0, .int .i64 0, .int .i64 0, .int .i64 0, .int .i64 0, .slice none 0 0, .slice none 0 0] 64 (0, 0)) ∧ w0.heap[T]? = some (.cells #[.int .i64 ac, .int .i64 rc, .int .i64 q, .int .i64 t, .int .i64 lo, .slice none 0 0, .slice none 0 0] 64 (0, 0))) := by
    rw [hw0]
    refine ⟨((Kp.al _ _).trans (Kp.al _ _)).trans (Kp.al _ _), ?_, ?_, ?_⟩
    · rw [hA]; exact al_old _ (al_old _ (heap_alloc_new w _))
    · have := heap_alloc_new (w.alloc (.cells #[.int .i64 ac, .int .i64 rc, .int .i64 q, .int .i64 t, .int .i64 lo, .slice va n c, .slice vb m d] 64)) (.cells #[.int .i64 0, .int .i64 0, .int .i64 0, .int .i64 0, .int .i64 0, .slice none 0 0, .slice none 0 0] 64)
      rw [hC, hA]
      rw [World.size_alloc] at this
      exact al_old _ this
    · have := heap_alloc_new ((w.alloc (.cells #[.int .i64 ac, .int .i64 rc, .int .i64 q, .int .i64 t, .int .i64 lo, .slice va n c, .slice vb m d] 64)).alloc (.cells #[.int .i64 0, .int .i64 0, .int .i64 0, .int .i64 0, .int .i64 0, .slice none 0 0, .slice none 0 0] 64)) (.cells #[.int .i64 ac, .int .i64 rc, .int .i64 q, .int .i64 t, .int .i64 lo, .slice none 0 0, .slice none 0 0] 64)
      rw [World.size_alloc, World.size_alloc] at this
      rw [hT, hC, hA]
      exact this
  have hAl : Hid (∀ k, A ≤ k → (σ k).1 = 0) := fun k hk => by rw [hz k (by omega)]
  have ls1 : Hid (Calls Try.prog 52 #[.pointer (some ⟨K, 8, none⟩), .slice va n c] w0 fun e w' => ∃ g c, e = .returned (.slice (some ⟨g, 0, none⟩) n c) ∧ ∃ N σ' V' X', LrE w0 σ K U V X G H O R L D E x.lq N g c w' σ' V' X') := by
    obtain ⟨k0, _⟩ := H0.out
    have := lendsRow_any w0 σ K U V X G H O R L D E (HB.out.kp k0) (.slice va n c) x.lq (fun wr hc => (RQ.out wr (((HW.out.1).trans k0).cls HW.out.2 hc)).1) hl1 (by omega) (by omega)
    rw [← e1.out.1] at this
    exact this
  clear hx hW hσ h eva evb hz hA hC hT hn hm hac hrc hq ht hlo
  go_enter Try.func35, Try.ntmps35
  go_upto_region 2 with fail
  have hA := EQ.out.1
  rw [← hA]
  rw [show A + 1 = C from EQ.out.2.1.symm]
  rw [show C + 1 = T from EQ.out.2.2.symm]
  rw [← hw0]
  have z5 : w0.cell? ⟨A, 5, none⟩ = some (.slice va n c) := (cells_at H0.out.2.1 5).1
  clear hw0 hA
  go_wp2_with fail
  go_at_call 52
  refine ls1.out.mono ?_
  rintro e w1 ⟨g1, c1, rfl, N1, σ1, V1,X1,F1⟩
  have q1 : A = w.heap.size ∧ C = A + 1 ∧ T = C + 1 := EQ.out
  obtain ⟨k0, bA, bC, bT⟩ := H0.out
  have nA : ∀ k, A ≤ k → ¬ (σ k).1 = 1 := fun k hk e => by have := hAl.out k hk; omega
  have bA1 := F1.ch.heap bA (nA A (by omega))
  have bC1 := F1.ch.heap bC (nA C (by omega))
  have bT1 := F1.ch.heap bT (nA T (by omega))
  have sT : (σ1 T).1 = 0 := by rw [F1.x T (hp_lt bT)]; exact hAl.out T (by omega)
  have sC : (σ1 C).1 = 0 := by rw [F1.x C (hp_lt bC)]; exact hAl.out C (by omega)
  obtain ⟨w2, hw2⟩ : ∃ w2, w2 = w1.setCell ⟨T, 5, none⟩ (.slice (some ⟨g1, 0, none⟩) n c1) := ⟨_, rfl⟩
  have c2 : Chg w1 w2 (fun k => k = T) := by rw [hw2]; exact Chg.setCell (S := fun k => k = T) (Chg.refl w1 _) (.inl rfl) _
  have bT2 : w2.heap[T]? = some (.cells #[.int .i64 ac, .int .i64 rc, .int .i64 q, .int .i64 t, .int .i64 lo, .slice (some ⟨g1, 0, none⟩) n c1, .slice none 0 0] 64 (0, 0)) := by rw [hw2, heap_setCell_same w1 T 5 _ 64 _ bT1]; rfl
  have bA2 := c2.heap bA1 (by omega)
  have bC2 := c2.heap bC1 (by omega)
  have P2 : Chg w0 w2 (fun b => (σ b).1 = 1 ∨ b = T) := Chg.trans (F1.ch.mono (fun b _ e => .inl e)) c2 (fun b _ e => .inr e)
  have kW2 : Kp W w2 := Chg.trans (((HW.out.1).trans k0).cls HW.out.2 F1.ch) c2 (fun i hi e => by have := HW.out.1.size; omega)
  have B2 := F1.bk.chg c2 (fun b e => by rw [e]; exact sT)
  have ls2 : Hid (Calls Try.prog 52 #[.pointer (some ⟨K, 8, none⟩), .slice vb m d] w2 fun e w' => ∃ g c, e = .returned (.slice (some ⟨g, 0, none⟩) m c) ∧ ∃ N σ' V' X', LrE w2 σ1 K U V1 X1 (G ++ x.lq.map (fun m => m.bs ++ mk8)) H O R (L ++ [N1]) D E x.ls N g c w' σ' V' X') := by
    have := lendsRow_any w2 σ1 K U V1 X1 (G ++ x.lq.map (fun m => m.bs ++ mk8)) H O R (L ++ [N1]) D E B2 (.slice vb m d) x.ls (fun wr hc => (RQ.out wr (kW2.cls (fun k hk => by
      have h1 := HW.out.2 k hk
      have h2 := HW.out.1.size
      have h3 := k0.size
      rw [F1.x k (by omega)]; exact h1) hc)).2) hl2 (by simp; omega) (by simp; omega)
    rw [← e1.out.2] at this
    exact this
  have z6 : w2.cell? ⟨A, 6, none⟩ = some (.slice vb m d) := (cells_at bA2 6).1
  have y1 : w1.cell? ⟨T, 5, none⟩ = some (.slice none 0 0) := (cells_at bT1 5).1
  have y2 : w1.frozen? ⟨T, 5, none⟩ = false := (cells_at bT1 5).2
  have H2 : Hid (w2.heap[T]? = some (.cells #[.int .i64 ac, .int .i64 rc, .int .i64 q, .int .i64 t, .int .i64 lo, .slice (some ⟨g1, 0, none⟩) n c1, .slice none 0 0] 64 (0, 0)) ∧ w2.heap[C]? = some (.cells #[.int .i64 0, .int .i64 0, .int .i64 0, .int .i64 0, .int .i64 0, .slice none 0 0, .slice none 0 0] 64 (0, 0)) ∧ (σ1 T).1 = 0 ∧ (σ1 C).1 = 0 ∧ Chg w1 w2 (fun k => k = T) ∧ LrE w0 σ K U V X G H O R L D E x.lq N1 g1 c1 w1 σ1 V1 X1) := ⟨bT2, bC2, sT, sC, c2, F1⟩
  clear ls1 F1 k0 bA bC bT nA bA1 bC1 bT1 sT sC c2 bT2 bA2 bC2 P2 kW2 B2 q1
  go_upto_region 3 with fail
  rw [← hw2]
  clear hw2 y1 y2
  go_wp2_with fail
  go_at_call 52
  refine ls2.out.mono ?_
  rintro e w3 ⟨g2, c2, rfl, N2, σ3, V3,X3,F3⟩
  obtain ⟨bT2, bC2, sT, sC, k2, F1⟩ := H2.out
  have q1 : A = w.heap.size ∧ C = A + 1 ∧ T = C + 1 := EQ.out
  have bT3 := F3.ch.heap bT2 (by omega)
  have bC3 := F3.ch.heap bC2 (by omega)
  have sT3 : (σ3 T).1 = 0 := by rw [F3.x T (hp_lt bT2)]; exact sT
  have sC3 : (σ3 C).1 = 0 := by rw [F3.x C (hp_lt bC2)]; exact sC
  have i0 : w3.cell? ⟨T, 0, none⟩ = some (.int .i64 ac) := (cells_at bT3 0).1
  have i1 : w3.cell? ⟨T, 1, none⟩ = some (.int .i64 rc) := (cells_at bT3 1).1
  have i2 : w3.cell? ⟨T, 2, none⟩ = some (.int .i64 q) := (cells_at bT3 2).1
  have i3 : w3.cell? ⟨T, 3, none⟩ = some (.int .i64 t) := (cells_at bT3 3).1
  have i4 : w3.cell? ⟨T, 4, none⟩ = some (.int .i64 lo) := (cells_at bT3 4).1
  have i5 : w3.cell? ⟨T, 5, none⟩ = some (.slice (some ⟨g1, 0, none⟩) n c1) := (cells_at bT3 5).1
  have i6 : w3.cell? ⟨T, 6, none⟩ = some (.slice none 0 0) := (cells_at bT3 6).1
  have i7 : w3.frozen? ⟨T, 6, none⟩ = false := (cells_at bT3 6).2
  have nTC : T ≠ C := by omega
  have nCT : C ≠ T := by omega
  obtain ⟨w4, hw4⟩ : ∃ w4, w4 = w3.setCell ⟨T, 6, none⟩ (.slice (some ⟨g2, 0, none⟩) m c2) := ⟨_, rfl⟩
  have c4 : Chg w3 w4 (fun k => k = T) := by rw [hw4]; exact Chg.setCell (S := fun k => k = T) (Chg.refl w3 _) (.inl rfl) _
  have bT4 : w4.heap[T]? = some (.cells #[.int .i64 ac, .int .i64 rc, .int .i64 q, .int .i64 t, .int .i64 lo, .slice (some ⟨g1, 0, none⟩) n c1, .slice (some ⟨g2, 0, none⟩) m c2] 64 (0, 0)) := by rw [hw4, heap_setCell_same w3 T 6 _ 64 _ bT3]; rfl
  have bC4 := c4.heap bC3 (by omega)
  obtain ⟨w5, hw5⟩ : ∃ w5, w5 = ((((((w4.setCell ⟨C, 0, none⟩ (.int .i64 ac)).setCell ⟨C, 1, none⟩ (.int .i64 rc)).setCell ⟨C, 2, none⟩ (.int .i64 q)).setCell ⟨C, 3, none⟩ (.int .i64 t)).setCell ⟨C, 4, none⟩ (.int .i64 lo)).setCell ⟨C, 5, none⟩ (.slice (some ⟨g1, 0, none⟩) n c1)).setCell ⟨C, 6, none⟩ (.slice (some ⟨g2, 0, none⟩) m c2) := ⟨_, rfl⟩
  have c5 : Chg w4 w5 (fun k => k = C) := by rw [hw5]; exact Chg.setCell (S := fun k => k = C) (Chg.setCell (S := fun k => k = C) (Chg.setCell (S := fun k => k = C) (Chg.setCell (S := fun k => k = C) (Chg.setCell (S := fun k => k = C) (Chg.setCell (S := fun k => k = C) (Chg.setCell (S := fun k => k = C) (Chg.refl w4 _) (.inl rfl) _) (.inl rfl) _) (.inl rfl) _) (.inl rfl) _) (.inl rfl) _) (.inl rfl) _) (.inl rfl) _
  have c35 : Chg w3 w5 (fun k => k = T ∨ k = C) := Chg.trans (c4.mono (fun b _ e => .inl e)) c5 (fun b _ e => .inr e)
  have bC5 : w5.heap[C]? = some (.cells #[.int .i64 ac, .int .i64 rc, .int .i64 q, .int .i64 t, .int .i64 lo, .slice (some ⟨g1, 0, none⟩) n c1, .slice (some ⟨g2, 0, none⟩) m c2] 64 (0, 0)) := by
    rw [hw5, heap_setCell_same _ C 6 _ 64 _ (heap_setCell_same _ C 5 _ 64 _ (heap_setCell_same _ C 4 _ 64 _ (heap_setCell_same _ C 3 _ 64 _ (heap_setCell_same _ C 2 _ 64 _ (heap_setCell_same _ C 1 _ 64 _ (heap_setCell_same w4 C 0 _ 64 _ bC4))))))]
    rfl
  have hLT : LtE w σ K U V X G H O R L D E x.lq x.ls N1 N2 g1 c1 g2 c2 w5 σ3 V3 X3 := by
    have lg1 := F1.lg
    have lg3 := F3.lg
    have fz1 := F1.bk.m.fz
    have sz2 := k2.size
    have gz : g1 < w1.heap.size := fz1.lt (by rw [lg1]; simp)
    have g1T : ¬ g1 = T := fun e => by rw [e] at lg1; rw [lg1] at sT; simp at sT
    have g1C : ¬ g1 = C := fun e => by rw [e] at lg1; rw [lg1] at sC; simp at sC
    have g2T : ¬ g2 = T := fun e => by rw [e] at lg3; rw [lg3] at sT3; simp at sT3
    have g2C : ¬ g2 = C := fun e => by rw [e] at lg3; rw [lg3] at sC3; simp at sC3
    have o1 : OM w5 (.slice (some ⟨g1, 0, none⟩) (x.lq.length + 3) c1) N1 := by
      refine c35.owns (F3.ch.owns (k2.owns F1.o (fun b hb e => ?_)) (fun b hb e => ?_)) (fun b hb e => ?_)
      all_goals
        obtain rfl : g1 = b := by simpa [Value.ownBlock] using hb
      · exact g1T e
      · rw [lg1] at e; simp at e
      · rcases e with e | e
        · exact g1T e
        · exact g1C e
    have o2 : OM w5 (.slice (some ⟨g2, 0, none⟩) (x.ls.length + 3) c2) N2 := by
      refine c35.owns F3.o (fun b hb e => ?_)
      obtain rfl : g2 = b := by simpa [Value.ownBlock] using hb
      rcases e with e | e
      · exact g2T e
      · exact g2C e
    refine ⟨F3.bk.chg c35 (fun b e => by rcases e with rfl | rfl; exact sT3; exact sC3), F1.n, F3.n, F1.s, F3.s, o1, o2, fun y hy => ?_, fun y hy => ?_, ?_, by rw [lg3], ?_, fun b hb => ?_, F3.v8.trans F1.v8, by rw [F3.x6, F1.x6]⟩
    · have h2 := (F1.b y hy).2
      refine ⟨((((F1.b y hy).1.chg k2 (fun k hk e => ?_)).chg F3.ch (fun k hk e => ?_)).chg c35 (fun k hk e => ?_)), fun k hk => ?_⟩
      · have := h2 k hk; rw [e] at this; omega
      · have := h2 k hk; omega
      · have := h2 k hk
        rcases e with e | e
        · rw [e] at this; omega
        · rw [e] at this; omega
      · have h3 := h2 k hk
        have := fz1.lt (b := k) (by omega)
        rw [F3.x k (by omega)]; exact h3
    · have h2 := (F3.b y hy).2
      refine ⟨(F3.b y hy).1.chg c35 (fun k hk e => ?_), h2⟩
      have := h2 k hk
      rcases e with e | e
      · rw [e] at this; omega
      · rw [e] at this; omega
    · rw [F3.x g1 (by omega), lg1]
    · have k0 := H0.out.1
      have c1' : Chg w w1 (fun b => (σ b).1 = 1) := Chg.trans k0.any F1.ch (fun b _ e => e)
      have s1 := k0.size
      refine Chg.trans (Chg.trans (Chg.trans c1' k2 (fun b hb e => by omega)) F3.ch (fun b hb e => ?_)) c35 (fun b hb e => by omega)
      show (σ b).1 = 1
      rw [← F1.x b (by omega)]; exact e
    · have s1 := H0.out.1.size
      have s2 := F1.ch.size
      rw [F3.x b (by omega), F1.x b (by omega)]
  have H5 : Hid (LtE w σ K U V X G H O R L D E x.lq x.ls N1 N2 g1 c1 g2 c2 w5 σ3 V3 X3 ∧ w5.heap[C]? = some (.cells #[.int .i64 ac, .int .i64 rc, .int .i64 q, .int .i64 t, .int .i64 lo, .slice (some ⟨g1, 0, none⟩) n c1, .slice (some ⟨g2, 0, none⟩) m c2] 64 (0, 0))) := ⟨hLT, bC5⟩
  have j0 : w4.cell? ⟨T, 0, none⟩ = some (.int .i64 ac) := (cells_at bT4 0).1
  have j1 : w4.cell? ⟨T, 1, none⟩ = some (.int .i64 rc) := (cells_at bT4 1).1
  have j2 : w4.cell? ⟨T, 2, none⟩ = some (.int .i64 q) := (cells_at bT4 2).1
  have j3 : w4.cell? ⟨T, 3, none⟩ = some (.int .i64 t) := (cells_at bT4 3).1
  have j4 : w4.cell? ⟨T, 4, none⟩ = some (.int .i64 lo) := (cells_at bT4 4).1
  have j5 : w4.cell? ⟨T, 5, none⟩ = some (.slice (some ⟨g1, 0, none⟩) n c1) := (cells_at bT4 5).1
  have j6 : w4.cell? ⟨T, 6, none⟩ = some (.slice (some ⟨g2, 0, none⟩) m c2) := (cells_at bT4 6).1
  have l0 := cells_at bC4 0
  have l1 := cells_at bC4 1
  have l2 := cells_at bC4 2
  have l3 := cells_at bC4 3
  have l4 := cells_at bC4 4
  have l5 := cells_at bC4 5
  have l6 := cells_at bC4 6
  simp at l0 l1 l2 l3 l4 l5 l6
  obtain ⟨l0, m0⟩ := l0
  obtain ⟨l1, m1⟩ := l1
  obtain ⟨l2, m2⟩ := l2
  obtain ⟨l3, m3⟩ := l3
  obtain ⟨l4, m4⟩ := l4
  obtain ⟨l5, m5⟩ := l5
  obtain ⟨l6, m6⟩ := l6
  have p0 : w5.cell? ⟨C, 0, none⟩ = some (.int .i64 ac) := (cells_at bC5 0).1
  have p1 : w5.cell? ⟨C, 1, none⟩ = some (.int .i64 rc) := (cells_at bC5 1).1
  have p2 : w5.cell? ⟨C, 2, none⟩ = some (.int .i64 q) := (cells_at bC5 2).1
  have p3 : w5.cell? ⟨C, 3, none⟩ = some (.int .i64 t) := (cells_at bC5 3).1
  have p4 : w5.cell? ⟨C, 4, none⟩ = some (.int .i64 lo) := (cells_at bC5 4).1
  have p5 : w5.cell? ⟨C, 5, none⟩ = some (.slice (some ⟨g1, 0, none⟩) n c1) := (cells_at bC5 5).1
  have p6 : w5.cell? ⟨C, 6, none⟩ = some (.slice (some ⟨g2, 0, none⟩) m c2) := (cells_at bC5 6).1
  clear F3 bT2 bC2 sT sC k2 F1 q1 bT3 bC3 sT3 sC3 c4 bT4 bC4 c5 c35 bC5 hLT ls2 H2
  go_upto_region 4 with fail
  rw [← hw4]
  clear hw4 i0 i1 i2 i3 i4 i5 i6 i7
  go_wp2_with fail
  rw [← hw5]
  clear hw5
  refine bodyPost_ret (v := .agg #[.int .i64 ac, .int .i64 rc, .int .i64 q, .int .i64 t, .int .i64 lo, .slice (some ⟨g1, 0, none⟩) n c1, .slice (some ⟨g2, 0, none⟩) m c2]) (by simp [results, Try.results35, go_sem, p0, p1, p2, p3, p4, p5, p6]) rfl ?_
  exact ⟨g1, c1, g2, c2, rfl, N1,N2, σ3, V3,X3,H5.out.1⟩
end Go.Proofs.Ytnblhaeojlpmmaa
