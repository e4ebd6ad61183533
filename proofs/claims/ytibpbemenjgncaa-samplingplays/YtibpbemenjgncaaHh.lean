import Derived.Test.YtibpbemenjgncaaHg
namespace Go.Proofs.Ytibpbemenjgncaa
open Go.ChangeShapes Go.WideShapes Go.ChangeAt Go.RowKit
set_option linter.unusedVariables false
section
variable (W w : World) (σ : Nat → Nat) (K : Nat) (V : Nat → Value) (X : Nat → List Value) (MM : List Int) (fr hd ll : List Ent) (B F : Nat) (p : PS)
set_option maxHeartbeats 8000000 in
set_option maxRecDepth 10000 in
theorem step_load_long (h : Rdy W w σ K V X MM fr hd ll B F p) (ce tk : Int) (v : Value) (th nt : Bool) (v1 : Value) (b1 : List Int) (t1 : Int) (v2 : Value) (b2 : List Int) (t2 : Int) (hv1 : Bs W v1 b1) (hv2 : Bs W v2 b2) (hL : ¬ (b1.length ≤ 300 ∧ b2.length ≤ 300)) :
    Calls Try.prog 20 #[.pointer (some ⟨B, 0, none⟩), .pointer (some ⟨F, 0, none⟩), .agg #[.int .i64 5, .int .i64 ce, .int .u64 tk, v, .bool th, .bool nt, v1, .int .u64 t1, v2, .int .u64 t2], .pointer (some ⟨K, 0, none⟩)] w fun e w' => e = .returned (.bool true) ∧ StP W w w' σ K MM fr hd ll B F := by
  obtain ⟨a1, c1, rfl⟩ := hv1.vshape
  obtain ⟨a2, c2, rfl⟩ := hv2.vshape
  have hl1 := hv1.len
  have hl2 := hv2.len
  have kA := Kp.al w (.cells #[.int .i64 5, .int .i64 ce, .int .u64 tk, v, .bool th, .bool nt, .slice a1 b1.length c1, .int .u64 t1, .slice a2 b2.length c2, .int .u64 t2] 33)
  have hb := heap_alloc_new w (.cells #[.int .i64 5, .int .i64 ce, .int .u64 tk, v, .bool th, .bool nt, .slice a1 b1.length c1, .int .u64 t1, .slice a2 b2.length c2, .int .u64 t2] 33)
  have HH : Hid (Rdy W (w.alloc (.cells #[.int .i64 5, .int .i64 ce, .int .u64 tk, v, .bool th, .bool nt, .slice a1 b1.length c1, .int .u64 t1, .slice a2 b2.length c2, .int .u64 t2] 33)) σ K V X MM fr hd ll B F p ∧ Kp w (w.alloc (.cells #[.int .i64 5, .int .i64 ce, .int .u64 tk, v, .bool th, .bool nt, .slice a1 b1.length c1, .int .u64 t1, .slice a2 b2.length c2, .int .u64 t2] 33)) ∧ Bs W (.slice a1 b1.length c1) b1 ∧ Bs W (.slice a2 b2.length c2) b2) := ⟨h.al kA, kA, hv1, hv2⟩
  clear h kA hv1 hv2
  go_enter Try.func20, Try.ntmps20
  go_upto_region 1 with fail
  generalize w.alloc (.cells #[.int .i64 5, .int .i64 ce, .int .u64 tk, v, .bool th, .bool nt, .slice a1 b1.length c1, .int .u64 t1, .slice a2 b2.length c2, .int .u64 t2] 33) = w1 at *
  generalize w.heap.size = N at *
  have HN : Hid (w1.heap[N]? = some (.cells #[.int .i64 5, .int .i64 ce, .int .u64 tk, v, .bool th, .bool nt, .slice a1 b1.length c1, .int .u64 t1, .slice a2 b2.length c2, .int .u64 t2] 33 (0, 0))) := hb
  have z0 : w1.cell? ⟨N, 0, none⟩ = some (.int .i64 5) := (cells_at hb 0).1
  have y4 : w1.cell? ⟨N, 4, none⟩ = some (.bool th) := (cells_at hb 4).1
  have y5 : w1.cell? ⟨N, 5, none⟩ = some (.bool nt) := (cells_at hb 5).1
  have y6 : w1.cell? ⟨N, 6, none⟩ = some (.slice a1 b1.length c1) := (cells_at hb 6).1
  have y7 : w1.cell? ⟨N, 7, none⟩ = some (.int .u64 t1) := (cells_at hb 7).1
  have y8 : w1.cell? ⟨N, 8, none⟩ = some (.slice a2 b2.length c2) := (cells_at hb 8).1
  have y9 : w1.cell? ⟨N, 9, none⟩ = some (.int .u64 t2) := (cells_at hb 9).1
  have kB := Kp.al w1 (.cells #[.bool th, .bool nt, .slice a1 b1.length c1, .int .u64 t1, .slice a2 b2.length c2, .int .u64 t2] 31)
  have X1 := heap_alloc_new w1 (.cells #[.bool th, .bool nt, .slice a1 b1.length c1, .int .u64 t1, .slice a2 b2.length c2, .int .u64 t2] 31)
  have HD2 : Hid (Dn W w1 (w1.alloc (.cells #[.bool th, .bool nt, .slice a1 b1.length c1, .int .u64 t1, .slice a2 b2.length c2, .int .u64 t2] 31)) σ σ K V X MM fr hd ll B F p p ∧ (w1.alloc (.cells #[.bool th, .bool nt, .slice a1 b1.length c1, .int .u64 t1, .slice a2 b2.length c2, .int .u64 t2] 31)).heap[N]? = some (.cells #[.int .i64 5, .int .i64 ce, .int .u64 tk, v, .bool th, .bool nt, .slice a1 b1.length c1, .int .u64 t1, .slice a2 b2.length c2, .int .u64 t2] 33 (0, 0)) ∧ (w1.alloc (.cells #[.bool th, .bool nt, .slice a1 b1.length c1, .int .u64 t1, .slice a2 b2.length c2, .int .u64 t2] 31)).heap[w1.heap.size]? = some (.cells #[.bool th, .bool nt, .slice a1 b1.length c1, .int .u64 t1, .slice a2 b2.length c2, .int .u64 t2] 31 (0, 0))) := ⟨HH.out.1.dn.al kB, kB.heap hb, X1⟩
  clear hb kB X1
  go_upto_region 44 with fail
  obtain ⟨A, hA0⟩ : ∃ A, w1.heap.size = A := ⟨_, rfl⟩
  have HA0 : Hid (w1.heap.size ≤ A) := (Nat.le_of_eq hA0 : w1.heap.size ≤ A)
  rw [hA0] at HD2 ⊢
  clear hA0
  generalize w1.alloc (.cells #[.bool th, .bool nt, .slice a1 b1.length c1, .int .u64 t1, .slice a2 b2.length c2, .int .u64 t2] 31) = w2 at *
  clear z0 y4 y5 y6 y7 y8 y9
  have z6 : w2.cell? ⟨N, 6, none⟩ = some (.slice a1 b1.length c1) := (cells_at HD2.out.2.1 6).1
  go_wp2_with fail
  go_at_call 37
  refine (lent_any w2 _ b1 (HH.out.2.2.1.kp HD2.out.1.kp)).mono ?_
  rintro e w3 ⟨g1, k1, rfl, n1, hg1, kk⟩
  have D3 := HD2.out.1.lent n1 hg1 kk
  have HD3 : Hid (Dn W w1 w3 σ (lab σ (Value.slice (some ⟨g1, 0, none⟩) 0 0) 5) K V X MM fr hd ll B F p p ∧ w3.heap[N]? = some (.cells #[.int .i64 5, .int .i64 ce, .int .u64 tk, v, .bool th, .bool nt, .slice a1 b1.length c1, .int .u64 t1, .slice a2 b2.length c2, .int .u64 t2] 33 (0, 0)) ∧ w3.heap[A]? = some (.cells #[.bool th, .bool nt, .slice a1 b1.length c1, .int .u64 t1, .slice a2 b2.length c2, .int .u64 t2] 31 (0, 0)) ∧ Ln w3 g1 k1 b1 (b1 ++ [90]) ∧ W.heap.size ≤ g1) := ⟨D3, kk.heap HD2.out.2.1, kk.heap HD2.out.2.2, n1, Nat.le_trans HD2.out.1.kp.size hg1⟩
  have z8 : w3.cell? ⟨N, 8, none⟩ = some (.slice a2 b2.length c2) := (cells_at HD3.out.2.1 8).1
  clear D3 n1 hg1 kk z6
  go_wp2_with fail
  go_at_call 37
  refine (lent_any w3 _ b2 (HH.out.2.2.2.kp HD3.out.1.kp)).mono ?_
  rintro e w4 ⟨g2, k2, rfl, n2, hg2, kk⟩
  have D4 := HD3.out.1.lent n2 hg2 kk
  have g12 : g1 < g2 := by
    obtain ⟨cs, hc⟩ := HD3.out.2.2.2.1.tp
    have := hp_lt hc
    omega
  have HL : Hid (lab (lab σ (Value.slice (some ⟨g1, 0, none⟩) 0 0) 5) (Value.slice (some ⟨g2, 0, none⟩) 0 0) 5 g1 = 5 ∧ lab (lab σ (Value.slice (some ⟨g1, 0, none⟩) 0 0) 5) (Value.slice (some ⟨g2, 0, none⟩) 0 0) 5 g2 = 5) := by
    refine ⟨?_, lab_same _ _ _ _ rfl⟩
    unfold lab
    rw [if_neg (fun e => by have : g2 = g1 := (by simpa [Value.ownBlock] using e); omega)]
    exact if_pos rfl
  have HD4 : Hid (Dn W w1 w4 σ (lab (lab σ (Value.slice (some ⟨g1, 0, none⟩) 0 0) 5) (Value.slice (some ⟨g2, 0, none⟩) 0 0) 5) K V X MM fr hd ll B F p p ∧ w4.heap[N]? = some (.cells #[.int .i64 5, .int .i64 ce, .int .u64 tk, v, .bool th, .bool nt, .slice a1 b1.length c1, .int .u64 t1, .slice a2 b2.length c2, .int .u64 t2] 33 (0, 0)) ∧ w4.heap[A]? = some (.cells #[.bool th, .bool nt, .slice a1 b1.length c1, .int .u64 t1, .slice a2 b2.length c2, .int .u64 t2] 31 (0, 0)) ∧ Ln w4 g1 k1 b1 (b1 ++ [90]) ∧ Ln w4 g2 k2 b2 (b2 ++ [90]) ∧ W.heap.size ≤ g1 ∧ W.heap.size ≤ g2) := ⟨D4, kk.heap HD3.out.2.1, kk.heap HD3.out.2.2.1, HD3.out.2.2.2.1.chg kk (fun x => x), n2, HD3.out.2.2.2.2, by have := HD3.out.2.2.2.2; omega⟩
  clear D4 n2 hg2 kk z8
  generalize lab (lab σ (Value.slice (some ⟨g1, 0, none⟩) 0 0) 5) (Value.slice (some ⟨g2, 0, none⟩) 0 0) 5 = σ4 at *
  have HLo : Hid (Lo W σ4 K V X MM fr hd ll g1 k1 (b1 ++ [90]) ∧ Lo W σ4 K V X MM fr hd ll g2 k2 (b2 ++ [90])) := ⟨Lo.lent HL.out.1 HD4.out.2.2.2.2.2.1 _ _, Lo.lent HL.out.2 HD4.out.2.2.2.2.2.2 _ _⟩
  have z6 : w4.cell? ⟨N, 6, none⟩ = some (.slice a1 b1.length c1) := (cells_at HD4.out.2.1 6).1
  have z8 : w4.cell? ⟨N, 8, none⟩ = some (.slice a2 b2.length c2) := (cells_at HD4.out.2.1 8).1
  have m2 : w4.cell? ⟨A, 2, none⟩ = some (.slice a1 b1.length c1) := (cells_at HD4.out.2.2.1 2).1
  have m3 : w4.frozen? ⟨A, 2, none⟩ = false := (cells_at HD4.out.2.2.1 2).2
  have hk1 : (b1.length : Int) ≤ (k1 : Int) := by have := HD4.out.2.2.2.1.cap; omega
  have hk2 : (b2.length : Int) ≤ (k2 : Int) := by have := HD4.out.2.2.2.2.1.cap; omega
  have CASE : (b1.length : Int) ≤ 300 ∧ ¬ (b2.length : Int) ≤ 300 ∨ ¬ (b1.length : Int) ≤ 300 := by omega
  have hAw : w1.heap.size ≤ A := HA0.out
  have n12 : g1 ≠ g2 := by omega
  have nNA : N ≠ A := fun q => by
    have x1 := HD4.out.2.1
    have x2 := HD4.out.2.2.1
    rw [q, x2] at x1
    simp at x1
  have n1A : g1 ≠ A := fun q => by
    obtain ⟨cs, x1⟩ := HD4.out.2.2.2.1.tp
    have x2 := HD4.out.2.2.1
    rw [q, x2] at x1
    simp at x1
  have n2A : g2 ≠ A := fun q => by
    obtain ⟨cs, x1⟩ := HD4.out.2.2.2.2.1.tp
    have x2 := HD4.out.2.2.1
    rw [q, x2] at x1
    simp at x1
  generalize b1 ++ [90] = ys1 at *
  generalize b2 ++ [90] = ys2 at *
  rcases CASE with ⟨i1, i2⟩ | i1
  · go_upto_region 51 with fail
    have D5 := HD4.out.1.tmp (Chg.setCell (p := ⟨A, 2, none⟩) (S := fun k => k = A) (Chg.refl w4 _) (.inl rfl) (.slice (some ⟨g1, 0, none⟩) b1.length k1)) HD4.out.2.2.1 hAw HH.out.1.kp.size
    have cA := Chg.setCell (p := ⟨A, 2, none⟩) (S := fun k => k = A) (Chg.refl w4 _) (.inl rfl) (.slice (some ⟨g1, 0, none⟩) b1.length k1)
    have B5 : (w4.setCell ⟨A, 2, none⟩ (.slice (some ⟨g1, 0, none⟩) b1.length k1)).heap[A]? = some (.cells #[.bool th, .bool nt, .slice (some ⟨g1, 0, none⟩) b1.length k1, .int .u64 t1, .slice a2 b2.length c2, .int .u64 t2] 31 (0, 0)) := box_at HD4.out.2.2.1 2 _
    have HD5 : Hid (Dn W w1 (w4.setCell ⟨A, 2, none⟩ (.slice (some ⟨g1, 0, none⟩) b1.length k1)) σ σ4 K V X MM fr hd ll B F p p ∧ (w4.setCell ⟨A, 2, none⟩ (.slice (some ⟨g1, 0, none⟩) b1.length k1)).heap[N]? = some (.cells #[.int .i64 5, .int .i64 ce, .int .u64 tk, v, .bool th, .bool nt, .slice a1 b1.length c1, .int .u64 t1, .slice a2 b2.length c2, .int .u64 t2] 33 (0, 0)) ∧ (w4.setCell ⟨A, 2, none⟩ (.slice (some ⟨g1, 0, none⟩) b1.length k1)).heap[A]? = some (.cells #[.bool th, .bool nt, .slice (some ⟨g1, 0, none⟩) b1.length k1, .int .u64 t1, .slice a2 b2.length c2, .int .u64 t2] 31 (0, 0)) ∧ Ln (w4.setCell ⟨A, 2, none⟩ (.slice (some ⟨g1, 0, none⟩) b1.length k1)) g1 k1 b1 ys1 ∧ Ln (w4.setCell ⟨A, 2, none⟩ (.slice (some ⟨g1, 0, none⟩) b1.length k1)) g2 k2 b2 ys2) := ⟨D5, cA.heap HD4.out.2.1 nNA, B5, HD4.out.2.2.2.1.chg cA n1A, HD4.out.2.2.2.2.1.chg cA n2A⟩
    have m4 : (w4.setCell ⟨A, 2, none⟩ (.slice (some ⟨g1, 0, none⟩) b1.length k1)).cell? ⟨A, 4, none⟩ = some (.slice a2 b2.length c2) := (cells_at B5 4).1
    have m5 : (w4.setCell ⟨A, 2, none⟩ (.slice (some ⟨g1, 0, none⟩) b1.length k1)).frozen? ⟨A, 4, none⟩ = false := (cells_at B5 4).2
    clear D5 cA B5
    go_upto_region 52 with fail
    generalize w4.setCell ⟨A, 2, none⟩ (.slice (some ⟨g1, 0, none⟩) b1.length k1) = w5 at *
    have D6 := HD5.out.1.tmp (Chg.setCell (p := ⟨A, 4, none⟩) (S := fun k => k = A) (Chg.refl w5 _) (.inl rfl) (.slice (some ⟨g2, 0, none⟩) b2.length k2)) HD5.out.2.2.1 hAw HH.out.1.kp.size
    have cA := Chg.setCell (p := ⟨A, 4, none⟩) (S := fun k => k = A) (Chg.refl w5 _) (.inl rfl) (.slice (some ⟨g2, 0, none⟩) b2.length k2)
    have B6 : (w5.setCell ⟨A, 4, none⟩ (.slice (some ⟨g2, 0, none⟩) b2.length k2)).heap[A]? = some (.cells #[.bool th, .bool nt, .slice (some ⟨g1, 0, none⟩) b1.length k1, .int .u64 t1, .slice (some ⟨g2, 0, none⟩) b2.length k2, .int .u64 t2] 31 (0, 0)) := box_at HD5.out.2.2.1 4 _
    have HD6 : Hid (Dn W w1 (w5.setCell ⟨A, 4, none⟩ (.slice (some ⟨g2, 0, none⟩) b2.length k2)) σ σ4 K V X MM fr hd ll B F p p ∧ (w5.setCell ⟨A, 4, none⟩ (.slice (some ⟨g2, 0, none⟩) b2.length k2)).heap[N]? = some (.cells #[.int .i64 5, .int .i64 ce, .int .u64 tk, v, .bool th, .bool nt, .slice a1 b1.length c1, .int .u64 t1, .slice a2 b2.length c2, .int .u64 t2] 33 (0, 0)) ∧ (w5.setCell ⟨A, 4, none⟩ (.slice (some ⟨g2, 0, none⟩) b2.length k2)).heap[A]? = some (.cells #[.bool th, .bool nt, .slice (some ⟨g1, 0, none⟩) b1.length k1, .int .u64 t1, .slice (some ⟨g2, 0, none⟩) b2.length k2, .int .u64 t2] 31 (0, 0)) ∧ Ln (w5.setCell ⟨A, 4, none⟩ (.slice (some ⟨g2, 0, none⟩) b2.length k2)) g1 k1 b1 ys1 ∧ Ln (w5.setCell ⟨A, 4, none⟩ (.slice (some ⟨g2, 0, none⟩) b2.length k2)) g2 k2 b2 ys2) := ⟨D6, cA.heap HD5.out.2.1 nNA, B6, HD5.out.2.2.2.1.chg cA n1A, HD5.out.2.2.2.2.chg cA n2A⟩
    clear D6 cA B6
    go_upto_region 53 with fail
    generalize w5.setCell ⟨A, 4, none⟩ (.slice (some ⟨g2, 0, none⟩) b2.length k2) = w6 at *
    clear m2 m3 m4 m5 z6 z8
    obtain ⟨D6, bN, bA, e1, e2⟩ := HD6.out
    have f0 : w6.cell? ⟨A, 0, none⟩ = some (.bool th) := (cells_at bA 0).1
    have f1 : w6.cell? ⟨A, 1, none⟩ = some (.bool nt) := (cells_at bA 1).1
    have f2 : w6.cell? ⟨A, 2, none⟩ = some (.slice (some ⟨g1, 0, none⟩) b1.length k1) := (cells_at bA 2).1
    have f3 : w6.cell? ⟨A, 3, none⟩ = some (.int .u64 t1) := (cells_at bA 3).1
    have f4 : w6.cell? ⟨A, 4, none⟩ = some (.slice (some ⟨g2, 0, none⟩) b2.length k2) := (cells_at bA 4).1
    have f5 : w6.cell? ⟨A, 5, none⟩ = some (.int .u64 t2) := (cells_at bA 5).1
    have nB1 : g1 ≠ B := fun q => by
      obtain ⟨cs, hx⟩ := D6.x.tp
      obtain ⟨cs', hy⟩ := e1.tp
      rw [q, hx] at hy
      simp at hy
    have nB2 : g2 ≠ B := fun q => by
      obtain ⟨cs, hx⟩ := D6.x.tp
      obtain ⟨cs', hy⟩ := e2.tp
      rw [q, hx] at hy
      simp at hy
    have nNB : N ≠ B := fun q => by
      obtain ⟨cs, hx⟩ := D6.x.tp
      rw [q, hx] at bN
      simp at bN
    have hLd := D6.x.load D6.bk.fz th nt (.slice (some ⟨g1, 0, none⟩) b1.length k1) (.slice (some ⟨g2, 0, none⟩) b2.length k2) b1 b2 t1 t2 (e1.bs hl1) (e2.bs hl2) (by simpa [blk] using nB1) (by simpa [blk] using nB2)
    clear D6 bN bA e1 e2
    go_wp2_with fail
    go_at_call 19
    refine hLd.mono ?_
    rintro e w7 ⟨rfl, x7, c7⟩
    have HD7 : Hid (Dn W w1 w7 σ σ4 K V X MM fr hd ll B F (p.lP th nt b1 b2 t1 t2) p ∧ w7.heap[N]? = some (.cells #[.int .i64 5, .int .i64 ce, .int .u64 tk, v, .bool th, .bool nt, .slice a1 b1.length c1, .int .u64 t1, .slice a2 b2.length c2, .int .u64 t2] 33 (0, 0)) ∧ Ln w7 g1 k1 b1 ys1 ∧ Ln w7 g2 k2 b2 ys2) := ⟨HD6.out.1.mx x7 c7, c7.heap HD6.out.2.1 nNB, HD6.out.2.2.2.1.chg c7 nB1, HD6.out.2.2.2.2.chg c7 nB2⟩
    clear x7 c7 hLd f0 f1 f2 f3 f4 f5
    have z6 : w7.cell? ⟨N, 6, none⟩ = some (.slice a1 b1.length c1) := (cells_at HD7.out.2.1 6).1
    go_wp2_with fail
    go_at_call 32
    refine (kept_any w7 g1 k1 b1 ys1 HD7.out.2.2.1 hl1 _ (HH.out.2.2.1.kp HD7.out.1.kp)).mono ?_
    rintro e w8 ⟨rfl, ⟨zs, hz, oz⟩, c8⟩
    have nN1 : N ≠ g1 := fun q => by
      obtain ⟨cs, hx⟩ := HD7.out.2.2.1.tp
      have := HD7.out.2.1
      rw [q, hx] at this
      simp at this
    have nN2 : N ≠ g2 := fun q => by
      obtain ⟨cs, hx⟩ := HD7.out.2.2.2.tp
      have := HD7.out.2.1
      rw [q, hx] at this
      simp at this
    have HD8 : Hid (Dn W w1 w8 σ σ4 K V X MM fr hd ll B F (p.lP th nt b1 b2 t1 t2) p ∧ w8.heap[N]? = some (.cells #[.int .i64 5, .int .i64 ce, .int .u64 tk, v, .bool th, .bool nt, .slice a1 b1.length c1, .int .u64 t1, .slice a2 b2.length c2, .int .u64 t2] 33 (0, 0)) ∧ Ln w8 g2 k2 b2 ys2) := ⟨HD7.out.1.kept HD7.out.2.2.1 HLo.out.1 hz oz c8, c8.heap HD7.out.2.1 nN1, HD7.out.2.2.2.chg c8 (fun q => n12 q.symm)⟩
    clear z6 hz oz c8
    have z8 : w8.cell? ⟨N, 8, none⟩ = some (.slice a2 b2.length c2) := (cells_at HD8.out.2.1 8).1
    go_wp2_with fail
    go_at_call 32
    refine (kept_any w8 g2 k2 b2 ys2 HD8.out.2.2 hl2 _ (HH.out.2.2.2.kp HD8.out.1.kp)).mono ?_
    rintro e w9 ⟨rfl, ⟨zs', hz, oz⟩, c9⟩
    have HD9 : Hid (Dn W w1 w9 σ σ4 K V X MM fr hd ll B F (p.lP th nt b1 b2 t1 t2) p ∧ w9.heap[N]? = some (.cells #[.int .i64 5, .int .i64 ce, .int .u64 tk, v, .bool th, .bool nt, .slice a1 b1.length c1, .int .u64 t1, .slice a2 b2.length c2, .int .u64 t2] 33 (0, 0))) := ⟨HD8.out.1.kept HD8.out.2.2 HLo.out.2 hz oz c9, c9.heap HD8.out.2.1 nN2⟩
    clear z8 hz oz c9
    have bN := HD9.out.2
    have y4 : w9.cell? ⟨N, 4, none⟩ = some (.bool th) := (cells_at bN 4).1
    have y5 : w9.cell? ⟨N, 5, none⟩ = some (.bool nt) := (cells_at bN 5).1
    have y6 : w9.cell? ⟨N, 6, none⟩ = some (.slice a1 b1.length c1) := (cells_at bN 6).1
    have y7 : w9.cell? ⟨N, 7, none⟩ = some (.int .u64 t1) := (cells_at bN 7).1
    have y8 : w9.cell? ⟨N, 8, none⟩ = some (.slice a2 b2.length c2) := (cells_at bN 8).1
    have y9 : w9.cell? ⟨N, 9, none⟩ = some (.int .u64 t2) := (cells_at bN 9).1
    have hY := HD9.out.1.y.load HD9.out.1.bk.fz th nt _ _ b1 b2 t1 t2 (HH.out.2.2.1.kp HD9.out.1.kp) (HH.out.2.2.2.kp HD9.out.1.kp)
    clear bN
    have hq : (p.lE th nt b1 b2 t1 t2 == p.lE th nt b1 b2 t1 t2) = true := by simp
    generalize p.lE th nt b1 b2 t1 t2 = er at *
    go_wp2_with (first | (go_at_call 39; refine hY.mono ?_; rintro e w10 ⟨rfl, y5, c5⟩) | fail)
    go_ret
    exact ⟨rfl, StP.al (HD9.out.1.my y5 c5).stp HH.out.2.1⟩
  · go_upto_region 51 with fail
    have D5 := HD4.out.1.tmp (Chg.setCell (p := ⟨A, 2, none⟩) (S := fun k => k = A) (Chg.refl w4 _) (.inl rfl) (.slice (some ⟨g1, 0, none⟩) b1.length k1)) HD4.out.2.2.1 hAw HH.out.1.kp.size
    have cA := Chg.setCell (p := ⟨A, 2, none⟩) (S := fun k => k = A) (Chg.refl w4 _) (.inl rfl) (.slice (some ⟨g1, 0, none⟩) b1.length k1)
    have B5 : (w4.setCell ⟨A, 2, none⟩ (.slice (some ⟨g1, 0, none⟩) b1.length k1)).heap[A]? = some (.cells #[.bool th, .bool nt, .slice (some ⟨g1, 0, none⟩) b1.length k1, .int .u64 t1, .slice a2 b2.length c2, .int .u64 t2] 31 (0, 0)) := box_at HD4.out.2.2.1 2 _
    have HD5 : Hid (Dn W w1 (w4.setCell ⟨A, 2, none⟩ (.slice (some ⟨g1, 0, none⟩) b1.length k1)) σ σ4 K V X MM fr hd ll B F p p ∧ (w4.setCell ⟨A, 2, none⟩ (.slice (some ⟨g1, 0, none⟩) b1.length k1)).heap[N]? = some (.cells #[.int .i64 5, .int .i64 ce, .int .u64 tk, v, .bool th, .bool nt, .slice a1 b1.length c1, .int .u64 t1, .slice a2 b2.length c2, .int .u64 t2] 33 (0, 0)) ∧ (w4.setCell ⟨A, 2, none⟩ (.slice (some ⟨g1, 0, none⟩) b1.length k1)).heap[A]? = some (.cells #[.bool th, .bool nt, .slice (some ⟨g1, 0, none⟩) b1.length k1, .int .u64 t1, .slice a2 b2.length c2, .int .u64 t2] 31 (0, 0)) ∧ Ln (w4.setCell ⟨A, 2, none⟩ (.slice (some ⟨g1, 0, none⟩) b1.length k1)) g1 k1 b1 ys1 ∧ Ln (w4.setCell ⟨A, 2, none⟩ (.slice (some ⟨g1, 0, none⟩) b1.length k1)) g2 k2 b2 ys2) := ⟨D5, cA.heap HD4.out.2.1 nNA, B5, HD4.out.2.2.2.1.chg cA n1A, HD4.out.2.2.2.2.1.chg cA n2A⟩
    have m4 : (w4.setCell ⟨A, 2, none⟩ (.slice (some ⟨g1, 0, none⟩) b1.length k1)).cell? ⟨A, 4, none⟩ = some (.slice a2 b2.length c2) := (cells_at B5 4).1
    have m5 : (w4.setCell ⟨A, 2, none⟩ (.slice (some ⟨g1, 0, none⟩) b1.length k1)).frozen? ⟨A, 4, none⟩ = false := (cells_at B5 4).2
    clear D5 cA B5
    go_upto_region 52 with fail
    generalize w4.setCell ⟨A, 2, none⟩ (.slice (some ⟨g1, 0, none⟩) b1.length k1) = w5 at *
    have D6 := HD5.out.1.tmp (Chg.setCell (p := ⟨A, 4, none⟩) (S := fun k => k = A) (Chg.refl w5 _) (.inl rfl) (.slice (some ⟨g2, 0, none⟩) b2.length k2)) HD5.out.2.2.1 hAw HH.out.1.kp.size
    have cA := Chg.setCell (p := ⟨A, 4, none⟩) (S := fun k => k = A) (Chg.refl w5 _) (.inl rfl) (.slice (some ⟨g2, 0, none⟩) b2.length k2)
    have B6 : (w5.setCell ⟨A, 4, none⟩ (.slice (some ⟨g2, 0, none⟩) b2.length k2)).heap[A]? = some (.cells #[.bool th, .bool nt, .slice (some ⟨g1, 0, none⟩) b1.length k1, .int .u64 t1, .slice (some ⟨g2, 0, none⟩) b2.length k2, .int .u64 t2] 31 (0, 0)) := box_at HD5.out.2.2.1 4 _
    have HD6 : Hid (Dn W w1 (w5.setCell ⟨A, 4, none⟩ (.slice (some ⟨g2, 0, none⟩) b2.length k2)) σ σ4 K V X MM fr hd ll B F p p ∧ (w5.setCell ⟨A, 4, none⟩ (.slice (some ⟨g2, 0, none⟩) b2.length k2)).heap[N]? = some (.cells #[.int .i64 5, .int .i64 ce, .int .u64 tk, v, .bool th, .bool nt, .slice a1 b1.length c1, .int .u64 t1, .slice a2 b2.length c2, .int .u64 t2] 33 (0, 0)) ∧ (w5.setCell ⟨A, 4, none⟩ (.slice (some ⟨g2, 0, none⟩) b2.length k2)).heap[A]? = some (.cells #[.bool th, .bool nt, .slice (some ⟨g1, 0, none⟩) b1.length k1, .int .u64 t1, .slice (some ⟨g2, 0, none⟩) b2.length k2, .int .u64 t2] 31 (0, 0)) ∧ Ln (w5.setCell ⟨A, 4, none⟩ (.slice (some ⟨g2, 0, none⟩) b2.length k2)) g1 k1 b1 ys1 ∧ Ln (w5.setCell ⟨A, 4, none⟩ (.slice (some ⟨g2, 0, none⟩) b2.length k2)) g2 k2 b2 ys2) := ⟨D6, cA.heap HD5.out.2.1 nNA, B6, HD5.out.2.2.2.1.chg cA n1A, HD5.out.2.2.2.2.chg cA n2A⟩
    clear D6 cA B6
    go_upto_region 53 with fail
    generalize w5.setCell ⟨A, 4, none⟩ (.slice (some ⟨g2, 0, none⟩) b2.length k2) = w6 at *
    clear m2 m3 m4 m5 z6 z8
    obtain ⟨D6, bN, bA, e1, e2⟩ := HD6.out
    have f0 : w6.cell? ⟨A, 0, none⟩ = some (.bool th) := (cells_at bA 0).1
    have f1 : w6.cell? ⟨A, 1, none⟩ = some (.bool nt) := (cells_at bA 1).1
    have f2 : w6.cell? ⟨A, 2, none⟩ = some (.slice (some ⟨g1, 0, none⟩) b1.length k1) := (cells_at bA 2).1
    have f3 : w6.cell? ⟨A, 3, none⟩ = some (.int .u64 t1) := (cells_at bA 3).1
    have f4 : w6.cell? ⟨A, 4, none⟩ = some (.slice (some ⟨g2, 0, none⟩) b2.length k2) := (cells_at bA 4).1
    have f5 : w6.cell? ⟨A, 5, none⟩ = some (.int .u64 t2) := (cells_at bA 5).1
    have nB1 : g1 ≠ B := fun q => by
      obtain ⟨cs, hx⟩ := D6.x.tp
      obtain ⟨cs', hy⟩ := e1.tp
      rw [q, hx] at hy
      simp at hy
    have nB2 : g2 ≠ B := fun q => by
      obtain ⟨cs, hx⟩ := D6.x.tp
      obtain ⟨cs', hy⟩ := e2.tp
      rw [q, hx] at hy
      simp at hy
    have nNB : N ≠ B := fun q => by
      obtain ⟨cs, hx⟩ := D6.x.tp
      rw [q, hx] at bN
      simp at bN
    have hLd := D6.x.load D6.bk.fz th nt (.slice (some ⟨g1, 0, none⟩) b1.length k1) (.slice (some ⟨g2, 0, none⟩) b2.length k2) b1 b2 t1 t2 (e1.bs hl1) (e2.bs hl2) (by simpa [blk] using nB1) (by simpa [blk] using nB2)
    clear D6 bN bA e1 e2
    go_wp2_with fail
    go_at_call 19
    refine hLd.mono ?_
    rintro e w7 ⟨rfl, x7, c7⟩
    have HD7 : Hid (Dn W w1 w7 σ σ4 K V X MM fr hd ll B F (p.lP th nt b1 b2 t1 t2) p ∧ w7.heap[N]? = some (.cells #[.int .i64 5, .int .i64 ce, .int .u64 tk, v, .bool th, .bool nt, .slice a1 b1.length c1, .int .u64 t1, .slice a2 b2.length c2, .int .u64 t2] 33 (0, 0)) ∧ Ln w7 g1 k1 b1 ys1 ∧ Ln w7 g2 k2 b2 ys2) := ⟨HD6.out.1.mx x7 c7, c7.heap HD6.out.2.1 nNB, HD6.out.2.2.2.1.chg c7 nB1, HD6.out.2.2.2.2.chg c7 nB2⟩
    clear x7 c7 hLd f0 f1 f2 f3 f4 f5
    have z6 : w7.cell? ⟨N, 6, none⟩ = some (.slice a1 b1.length c1) := (cells_at HD7.out.2.1 6).1
    go_wp2_with fail
    go_at_call 32
    refine (kept_any w7 g1 k1 b1 ys1 HD7.out.2.2.1 hl1 _ (HH.out.2.2.1.kp HD7.out.1.kp)).mono ?_
    rintro e w8 ⟨rfl, ⟨zs, hz, oz⟩, c8⟩
    have nN1 : N ≠ g1 := fun q => by
      obtain ⟨cs, hx⟩ := HD7.out.2.2.1.tp
      have := HD7.out.2.1
      rw [q, hx] at this
      simp at this
    have nN2 : N ≠ g2 := fun q => by
      obtain ⟨cs, hx⟩ := HD7.out.2.2.2.tp
      have := HD7.out.2.1
      rw [q, hx] at this
      simp at this
    have HD8 : Hid (Dn W w1 w8 σ σ4 K V X MM fr hd ll B F (p.lP th nt b1 b2 t1 t2) p ∧ w8.heap[N]? = some (.cells #[.int .i64 5, .int .i64 ce, .int .u64 tk, v, .bool th, .bool nt, .slice a1 b1.length c1, .int .u64 t1, .slice a2 b2.length c2, .int .u64 t2] 33 (0, 0)) ∧ Ln w8 g2 k2 b2 ys2) := ⟨HD7.out.1.kept HD7.out.2.2.1 HLo.out.1 hz oz c8, c8.heap HD7.out.2.1 nN1, HD7.out.2.2.2.chg c8 (fun q => n12 q.symm)⟩
    clear z6 hz oz c8
    have z8 : w8.cell? ⟨N, 8, none⟩ = some (.slice a2 b2.length c2) := (cells_at HD8.out.2.1 8).1
    go_wp2_with fail
    go_at_call 32
    refine (kept_any w8 g2 k2 b2 ys2 HD8.out.2.2 hl2 _ (HH.out.2.2.2.kp HD8.out.1.kp)).mono ?_
    rintro e w9 ⟨rfl, ⟨zs', hz, oz⟩, c9⟩
    have HD9 : Hid (Dn W w1 w9 σ σ4 K V X MM fr hd ll B F (p.lP th nt b1 b2 t1 t2) p ∧ w9.heap[N]? = some (.cells #[.int .i64 5, .int .i64 ce, .int .u64 tk, v, .bool th, .bool nt, .slice a1 b1.length c1, .int .u64 t1, .slice a2 b2.length c2, .int .u64 t2] 33 (0, 0))) := ⟨HD8.out.1.kept HD8.out.2.2 HLo.out.2 hz oz c9, c9.heap HD8.out.2.1 nN2⟩
    clear z8 hz oz c9
    have bN := HD9.out.2
    have y4 : w9.cell? ⟨N, 4, none⟩ = some (.bool th) := (cells_at bN 4).1
    have y5 : w9.cell? ⟨N, 5, none⟩ = some (.bool nt) := (cells_at bN 5).1
    have y6 : w9.cell? ⟨N, 6, none⟩ = some (.slice a1 b1.length c1) := (cells_at bN 6).1
    have y7 : w9.cell? ⟨N, 7, none⟩ = some (.int .u64 t1) := (cells_at bN 7).1
    have y8 : w9.cell? ⟨N, 8, none⟩ = some (.slice a2 b2.length c2) := (cells_at bN 8).1
    have y9 : w9.cell? ⟨N, 9, none⟩ = some (.int .u64 t2) := (cells_at bN 9).1
    have hY := HD9.out.1.y.load HD9.out.1.bk.fz th nt _ _ b1 b2 t1 t2 (HH.out.2.2.1.kp HD9.out.1.kp) (HH.out.2.2.2.kp HD9.out.1.kp)
    clear bN
    have hq : (p.lE th nt b1 b2 t1 t2 == p.lE th nt b1 b2 t1 t2) = true := by simp
    generalize p.lE th nt b1 b2 t1 t2 = er at *
    go_wp2_with (first | (go_at_call 39; refine hY.mono ?_; rintro e w10 ⟨rfl, y5, c5⟩) | fail)
    go_ret
    exact ⟨rfl, StP.al (HD9.out.1.my y5 c5).stp HH.out.2.1⟩
end
end Go.Proofs.Ytibpbemenjgncaa
