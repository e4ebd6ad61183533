import Derived.Test.YtibpbemenjgncaaHj
namespace Go.Proofs.Ytibpbemenjgncaa
open Go.ChangeShapes Go.WideShapes Go.ChangeAt Go.RowKit
set_option linter.unusedVariables false
/-- A block of another type stays. -/
theorem Pg.stay {W w w' : World} {σ : Nat → Nat} (h : Pg W w w' σ) {k T : Nat} {cs : Array Value} (hk : w.heap[k]? = some (.cells cs T (0, 0))) (h1 : T ≠ 57) (h2 : T ≠ 26) (h3 : T ≠ 5) : w'.heap[k]? = some (.cells cs T (0, 0)) := by
  obtain ⟨S, hc, hS⟩ := h
  refine hc.heap hk (fun e => ?_)
  rcases (hS k e).2 with ⟨cs', T', q1, q2⟩ | ⟨_, cs', q1⟩
  · rw [hk] at q1
    simp at q1
    rcases q2 with q2 | q2
    · exact h1 (by rw [q1.2, q2])
    · exact h2 (by rw [q1.2, q2])
  · rw [hk] at q1
    simp at q1
    exact h3 q1.2
section
variable (W w : World) (σ : Nat → Nat) (K : Nat) (V : Nat → Value) (X : Nat → List Value) (MM : List Int) (fr hd ll : List Ent) (B F : Nat) (p : PS)
set_option maxHeartbeats 8000000 in
set_option maxRecDepth 10000 in
theorem step_load_short (h : Rdy W w σ K V X MM fr hd ll B F p) (ce tk : Int) (v : Value) (th nt : Bool) (v1 : Value) (b1 : List Int) (t1 : Int) (v2 : Value) (b2 : List Int) (t2 : Int) (hv1 : Bs W v1 b1) (hv2 : Bs W v2 b2) (hL : b1.length ≤ 300 ∧ b2.length ≤ 300) :
    Calls Try.prog 20 #[.pointer (some ⟨B, 0, none⟩), .pointer (some ⟨F, 0, none⟩), .agg #[.int .i64 5, .int .i64 ce, .int .u64 tk, v, .bool th, .bool nt, v1, .int .u64 t1, v2, .int .u64 t2], .pointer (some ⟨K, 0, none⟩)] w fun e w' => e = .returned (.bool true) ∧ StP W w w' σ K MM fr hd ll B F := by
  obtain ⟨a1, c1, rfl⟩ := hv1.vshape
  obtain ⟨a2, c2, rfl⟩ := hv2.vshape
  have hl1 := hv1.len
  have hl2 := hv2.len
  have kA := Kp.al w (.cells #[.int .i64 5, .int .i64 ce, .int .u64 tk, v, .bool th, .bool nt, .slice a1 b1.length c1, .int .u64 t1, .slice a2 b2.length c2, .int .u64 t2] 33)
  have hb := heap_alloc_new w (.cells #[.int .i64 5, .int .i64 ce, .int .u64 tk, v, .bool th, .bool nt, .slice a1 b1.length c1, .int .u64 t1, .slice a2 b2.length c2, .int .u64 t2] 33)
  have HH : Hid (Rdy W (w.alloc (.cells #[.int .i64 5, .int .i64 ce, .int .u64 tk, v, .bool th, .bool nt, .slice a1 b1.length c1, .int .u64 t1, .slice a2 b2.length c2, .int .u64 t2] 33)) σ K V X MM fr hd ll B F p ∧ Kp w (w.alloc (.cells #[.int .i64 5, .int .i64 ce, .int .u64 tk, v, .bool th, .bool nt, .slice a1 b1.length c1, .int .u64 t1, .slice a2 b2.length c2, .int .u64 t2] 33)) ∧ Bs W (.slice a1 b1.length c1) b1 ∧ Bs W (.slice a2 b2.length c2) b2) := ⟨h.al kA, kA, hv1, hv2⟩
  clear h kA hv1 hv2
  go_enter Try.func20, Try.ntmps20
  go_upto_region 1 with fail
  generalize w.alloc (.cells #[.int .i64 5, .int .i64 ce, .int .u64 tk, v, .bool th, .bool nt, .slice a1 b1.length c1, .int .u64 t1, .slice a2 b2.length c2, .int .u64 t2] 33) = w1 at *
  generalize w.heap.size = N at *
  have HN : Hid (w1.heap[N]? = some (.cells #[.int .i64 5, .int .i64 ce, .int .u64 tk, v, .bool th, .bool nt, .slice a1 b1.length c1, .int .u64 t1, .slice a2 b2.length c2, .int .u64 t2] 33 (0, 0))) := hb
  have z0 : w1.cell? ⟨N, 0, none⟩ = some (.int .i64 5) := (cells_at hb 0).1
  have y4 : w1.cell? ⟨N, 4, none⟩ = some (.bool th) := (cells_at hb 4).1
  have y5 : w1.cell? ⟨N, 5, none⟩ = some (.bool nt) := (cells_at hb 5).1
  have y6 : w1.cell? ⟨N, 6, none⟩ = some (.slice a1 b1.length c1) := (cells_at hb 6).1
  have y7 : w1.cell? ⟨N, 7, none⟩ = some (.int .u64 t1) := (cells_at hb 7).1
  have y8 : w1.cell? ⟨N, 8, none⟩ = some (.slice a2 b2.length c2) := (cells_at hb 8).1
  have y9 : w1.cell? ⟨N, 9, none⟩ = some (.int .u64 t2) := (cells_at hb 9).1
  have kB := Kp.al w1 (.cells #[.bool th, .bool nt, .slice a1 b1.length c1, .int .u64 t1, .slice a2 b2.length c2, .int .u64 t2] 31)
  have X1 := heap_alloc_new w1 (.cells #[.bool th, .bool nt, .slice a1 b1.length c1, .int .u64 t1, .slice a2 b2.length c2, .int .u64 t2] 31)
  have HD2 : Hid (Dn W w1 (w1.alloc (.cells #[.bool th, .bool nt, .slice a1 b1.length c1, .int .u64 t1, .slice a2 b2.length c2, .int .u64 t2] 31)) σ σ K V X MM fr hd ll B F p p ∧ (w1.alloc (.cells #[.bool th, .bool nt, .slice a1 b1.length c1, .int .u64 t1, .slice a2 b2.length c2, .int .u64 t2] 31)).heap[N]? = some (.cells #[.int .i64 5, .int .i64 ce, .int .u64 tk, v, .bool th, .bool nt, .slice a1 b1.length c1, .int .u64 t1, .slice a2 b2.length c2, .int .u64 t2] 33 (0, 0)) ∧ (w1.alloc (.cells #[.bool th, .bool nt, .slice a1 b1.length c1, .int .u64 t1, .slice a2 b2.length c2, .int .u64 t2] 31)).heap[w1.heap.size]? = some (.cells #[.bool th, .bool nt, .slice a1 b1.length c1, .int .u64 t1, .slice a2 b2.length c2, .int .u64 t2] 31 (0, 0))) := ⟨HH.out.1.dn.al kB, kB.heap hb, X1⟩
  clear hb kB X1
  go_upto_region 44 with fail
  obtain ⟨A, hA0⟩ : ∃ A, w1.heap.size = A := ⟨_, rfl⟩
  have HA0 : Hid (w1.heap.size ≤ A) := (Nat.le_of_eq hA0 : w1.heap.size ≤ A)
  rw [hA0] at HD2 ⊢
  clear hA0
  generalize w1.alloc (.cells #[.bool th, .bool nt, .slice a1 b1.length c1, .int .u64 t1, .slice a2 b2.length c2, .int .u64 t2] 31) = w2 at *
  clear z0 y4 y5 y6 y7 y8 y9
  have z6 : w2.cell? ⟨N, 6, none⟩ = some (.slice a1 b1.length c1) := (cells_at HD2.out.2.1 6).1
  go_wp2_with fail
  go_at_call 37
  refine (lent_any w2 _ b1 (HH.out.2.2.1.kp HD2.out.1.kp)).mono ?_
  rintro e w3 ⟨x1, q1, rfl, _, _, kk⟩
  have HD3 : Hid (Dn W w1 w3 σ σ K V X MM fr hd ll B F p p ∧ w3.heap[N]? = some (.cells #[.int .i64 5, .int .i64 ce, .int .u64 tk, v, .bool th, .bool nt, .slice a1 b1.length c1, .int .u64 t1, .slice a2 b2.length c2, .int .u64 t2] 33 (0, 0)) ∧ w3.heap[A]? = some (.cells #[.bool th, .bool nt, .slice a1 b1.length c1, .int .u64 t1, .slice a2 b2.length c2, .int .u64 t2] 31 (0, 0))) := ⟨HD2.out.1.al kk, kk.heap HD2.out.2.1, kk.heap HD2.out.2.2⟩
  have z8 : w3.cell? ⟨N, 8, none⟩ = some (.slice a2 b2.length c2) := (cells_at HD3.out.2.1 8).1
  clear kk z6
  go_wp2_with fail
  go_at_call 37
  refine (lent_any w3 _ b2 (HH.out.2.2.2.kp HD3.out.1.kp)).mono ?_
  rintro e w3b ⟨x2, q2, rfl, _, _, kk⟩
  have HE : Hid (Dn W w1 w3b σ σ K V X MM fr hd ll B F p p ∧ w3b.heap[N]? = some (.cells #[.int .i64 5, .int .i64 ce, .int .u64 tk, v, .bool th, .bool nt, .slice a1 b1.length c1, .int .u64 t1, .slice a2 b2.length c2, .int .u64 t2] 33 (0, 0)) ∧ w3b.heap[A]? = some (.cells #[.bool th, .bool nt, .slice a1 b1.length c1, .int .u64 t1, .slice a2 b2.length c2, .int .u64 t2] 31 (0, 0))) := ⟨HD3.out.1.al kk, kk.heap HD3.out.2.1, kk.heap HD3.out.2.2⟩
  clear kk z8 HD3
  have z6 : w3b.cell? ⟨N, 6, none⟩ = some (.slice a1 b1.length c1) := (cells_at HE.out.2.1 6).1
  have z8 : w3b.cell? ⟨N, 8, none⟩ = some (.slice a2 b2.length c2) := (cells_at HE.out.2.1 8).1
  have i1 : (b1.length : Int) ≤ 300 := by omega
  have i2 : (b2.length : Int) ≤ 300 := by omega
  go_upto_region 47 with fail
  obtain ⟨xs7, o7, s7, l7⟩ := HE.out.1.bk.bf 7 (by omega) (by omega)
  obtain ⟨la7, lc7, hV7⟩ := o7.shape
  have y7 : w3b.cell? ⟨K, 7, none⟩ = some (.slice la7 xs7.length lc7) := by rw [← hV7]; exact (HE.out.1.bk.m.cell (i := 7) (by omega)).1
  have hLd : Calls Try.prog 38 #[.slice la7 xs7.length lc7, .slice a1 b1.length c1] w3b.drew fun e w1' => ∃ g cap, e = .returned (.slice (some ⟨g, 0, none⟩) 310 cap) ∧ w1'.cell? ⟨N, 6, none⟩ = some (.slice a1 b1.length c1) ∧ (∃ z, w1'.cell? ⟨K, 7, none⟩ = some z) ∧ w1'.frozen? ⟨K, 7, none⟩ = false ∧ (w1'.setCell ⟨K, 7, none⟩ (.slice (some ⟨g, 0, none⟩) 310 cap)).cell? ⟨N, 6, none⟩ = some (.slice a1 b1.length c1) ∧ (∃ ys σ5, ys.length = 310 ∧ 310 ≤ cap ∧ σ5 g = 3 ∧ W.heap.size ≤ g ∧ Ln (w1'.setCell ⟨K, 7, none⟩ (.slice (some ⟨g, 0, none⟩) 310 cap)) g cap b1 ys ∧ Dn W w1 (w1'.setCell ⟨K, 7, none⟩ (.slice (some ⟨g, 0, none⟩) 310 cap)) σ σ5 K (upd V 7 (.slice (some ⟨g, 0, none⟩) 310 cap)) X MM fr hd ll B F p p ∧ (w1'.setCell ⟨K, 7, none⟩ (.slice (some ⟨g, 0, none⟩) 310 cap)).heap[N]? = some (.cells #[.int .i64 5, .int .i64 ce, .int .u64 tk, v, .bool th, .bool nt, .slice a1 b1.length c1, .int .u64 t1, .slice a2 b2.length c2, .int .u64 t2] 33 (0, 0)) ∧ (w1'.setCell ⟨K, 7, none⟩ (.slice (some ⟨g, 0, none⟩) 310 cap)).heap[A]? = some (.cells #[.bool th, .bool nt, .slice a1 b1.length c1, .int .u64 t1, .slice a2 b2.length c2, .int .u64 t2] 31 (0, 0))) := by
    have kd := Kp.drew w3b
    have DD := HE.out.1.al kd
    rw [← hV7]
    refine (laid_any w3b.drew (V 7) xs7 (Chg.owns kd o7 (fun _ _ h => h)) s7 _ b1 (HH.out.2.2.1.kp DD.kp) hL.1).mono ?_
    rintro e w5 ⟨g, cap, rfl, ⟨ys, hy, hl⟩, hc, hg, hcap⟩
    have ho : OB w5 (.slice (some ⟨g, 0, none⟩) 310 cap) ys := by have := hl.o; rw [hy] at this; exact this
    obtain ⟨r1, r2, r3, r4, r5⟩ := DD.bk.lay (j := 7) (by omega) (by omega) hc hy ho hg DD.kp.size
    have n5 : ∀ b, (V 7).ownBlock = some b → ∃ cs, w3b.drew.heap[b]? = some (.cells cs 5 (0, 0)) := fun b hb => own_tp (Chg.owns kd o7 (fun _ _ h => h)) hb
    have bN5 : w5.heap[N]? = some (.cells #[.int .i64 5, .int .i64 ce, .int .u64 tk, v, .bool th, .bool nt, .slice a1 b1.length c1, .int .u64 t1, .slice a2 b2.length c2, .int .u64 t2] 33 (0, 0)) := hc.heap (kd.heap HE.out.2.1) (fun e => by obtain ⟨cs, q⟩ := n5 N e; rw [kd.heap HE.out.2.1] at q; simp at q)
    have bK5 := (DD.bk.m.chgT hc (fun b hb => by obtain ⟨cs, q⟩ := n5 b hb; exact ⟨cs, 5, q, by decide, by decide⟩)).box
    have bN6 := r2.stay (kd.heap HE.out.2.1) (by decide) (by decide) (by decide)
    have bA6 := r2.stay (kd.heap HE.out.2.2) (by decide) (by decide) (by decide)
    refine ⟨g, cap, rfl, (cells_at bN5 6).1, ⟨_, (cells_at bK5 7).1⟩, (cells_at bK5 7).2, (cells_at bN6 6).1, ys, _, hy, hcap, ?_, r5, ⟨by rw [hy]; exact r4, hl.f, hl.l⟩, DD.pg r1 r2 r3, bN6, bA6⟩
    exact lab_same _ _ _ _ rfl
  refine reg20_47 w3b K N xs7.length lc7 b1.length c1 la7 a1 z6 y7 _ hLd _ (fun _ _ _ q _ h => by cases q <;> exact h) ?_
  intro g1 k1 w5 hR
  obtain ⟨ys1, σ5, hy1, hcp1, hs1, hg1, hn1, hD, bN, bA⟩ := hR
  have HG : Hid (Ln (w5.setCell ⟨K, 7, none⟩ (.slice (some ⟨g1, 0, none⟩) 310 k1)) g1 k1 b1 ys1 ∧ Dn W w1 (w5.setCell ⟨K, 7, none⟩ (.slice (some ⟨g1, 0, none⟩) 310 k1)) σ σ5 K (upd V 7 (.slice (some ⟨g1, 0, none⟩) 310 k1)) X MM fr hd ll B F p p ∧ (w5.setCell ⟨K, 7, none⟩ (.slice (some ⟨g1, 0, none⟩) 310 k1)).heap[N]? = some (.cells #[.int .i64 5, .int .i64 ce, .int .u64 tk, v, .bool th, .bool nt, .slice a1 b1.length c1, .int .u64 t1, .slice a2 b2.length c2, .int .u64 t2] 33 (0, 0)) ∧ (w5.setCell ⟨K, 7, none⟩ (.slice (some ⟨g1, 0, none⟩) 310 k1)).heap[A]? = some (.cells #[.bool th, .bool nt, .slice a1 b1.length c1, .int .u64 t1, .slice a2 b2.length c2, .int .u64 t2] 31 (0, 0)) ∧ σ5 g1 = 3 ∧ W.heap.size ≤ g1) := ⟨hn1, hD, bN, bA, hs1, hg1⟩
  clear hLd y7 hV7 l7 s7 o7 HE z6 z8 hn1 hD bN bA hs1 hg1
  go_upto_region 48 with fail
  generalize w5.setCell ⟨K, 7, none⟩ (.slice (some ⟨g1, 0, none⟩) 310 k1) = w6 at *
  obtain ⟨xs8, o8, s8, l8⟩ := HG.out.2.1.bk.bf 8 (by omega) (by omega)
  rw [upd_other _ _ (by omega)] at o8 l8
  obtain ⟨la8, lc8, hV8⟩ := o8.shape
  have z8 : w6.cell? ⟨N, 8, none⟩ = some (.slice a2 b2.length c2) := (cells_at HG.out.2.2.1 8).1
  have y8 : w6.cell? ⟨K, 8, none⟩ = some (.slice la8 xs8.length lc8) := by rw [← hV8]; have := (HG.out.2.1.bk.m.cell (i := 8) (by omega)).1; rw [upd_other _ _ (by omega)] at this; exact this
  have hLd : Calls Try.prog 38 #[.slice la8 xs8.length lc8, .slice a2 b2.length c2] w6.drew fun e w1' => ∃ g cap, e = .returned (.slice (some ⟨g, 0, none⟩) 310 cap) ∧ w1'.cell? ⟨N, 8, none⟩ = some (.slice a2 b2.length c2) ∧ (∃ z, w1'.cell? ⟨K, 8, none⟩ = some z) ∧ w1'.frozen? ⟨K, 8, none⟩ = false ∧ (w1'.setCell ⟨K, 8, none⟩ (.slice (some ⟨g, 0, none⟩) 310 cap)).cell? ⟨N, 8, none⟩ = some (.slice a2 b2.length c2) ∧ (∃ ys σ6, ys.length = 310 ∧ 310 ≤ cap ∧ σ6 g = 4 ∧ σ6 g1 = 3 ∧ W.heap.size ≤ g ∧ Ln (w1'.setCell ⟨K, 8, none⟩ (.slice (some ⟨g, 0, none⟩) 310 cap)) g1 k1 b1 ys1 ∧ Ln (w1'.setCell ⟨K, 8, none⟩ (.slice (some ⟨g, 0, none⟩) 310 cap)) g cap b2 ys ∧ Dn W w1 (w1'.setCell ⟨K, 8, none⟩ (.slice (some ⟨g, 0, none⟩) 310 cap)) σ σ6 K (upd (upd V 7 (.slice (some ⟨g1, 0, none⟩) 310 k1)) 8 (.slice (some ⟨g, 0, none⟩) 310 cap)) X MM fr hd ll B F p p ∧ (w1'.setCell ⟨K, 8, none⟩ (.slice (some ⟨g, 0, none⟩) 310 cap)).heap[N]? = some (.cells #[.int .i64 5, .int .i64 ce, .int .u64 tk, v, .bool th, .bool nt, .slice a1 b1.length c1, .int .u64 t1, .slice a2 b2.length c2, .int .u64 t2] 33 (0, 0)) ∧ (w1'.setCell ⟨K, 8, none⟩ (.slice (some ⟨g, 0, none⟩) 310 cap)).heap[A]? = some (.cells #[.bool th, .bool nt, .slice a1 b1.length c1, .int .u64 t1, .slice a2 b2.length c2, .int .u64 t2] 31 (0, 0))) := by
    have kd := Kp.drew w6
    have DD := HG.out.2.1.al kd
    have hV8' : upd V 7 (.slice (some ⟨g1, 0, none⟩) 310 k1) 8 = V 8 := upd_other _ _ (by omega)
    rw [← hV8]
    refine (laid_any w6.drew (V 8) xs8 (Chg.owns kd o8 (fun _ _ h => h)) s8 _ b2 (HH.out.2.2.2.kp DD.kp) hL.2).mono ?_
    rintro e w7 ⟨g, cap, rfl, ⟨ys, hy, hl⟩, hc, hg, hcap⟩
    have ho : OB w7 (.slice (some ⟨g, 0, none⟩) 310 cap) ys := by have := hl.o; rw [hy] at this; exact this
    obtain ⟨r1, r2, r3, r4, r5⟩ := DD.bk.lay (j := 8) (by omega) (by omega) (by rw [hV8']; exact hc) hy ho (by rw [hV8']; exact hg) DD.kp.size
    have n5 : ∀ b, (V 8).ownBlock = some b → ∃ cs, w6.drew.heap[b]? = some (.cells cs 5 (0, 0)) := fun b hb => own_tp (Chg.owns kd o8 (fun _ _ h => h)) hb
    have bN5 : w7.heap[N]? = some (.cells #[.int .i64 5, .int .i64 ce, .int .u64 tk, v, .bool th, .bool nt, .slice a1 b1.length c1, .int .u64 t1, .slice a2 b2.length c2, .int .u64 t2] 33 (0, 0)) := hc.heap (kd.heap HG.out.2.2.1) (fun e => by obtain ⟨cs, q⟩ := n5 N e; rw [kd.heap HG.out.2.2.1] at q; simp at q)
    have bK5 := (DD.bk.m.chgT hc (fun b hb => by obtain ⟨cs, q⟩ := n5 b hb; exact ⟨cs, 5, q, by decide, by decide⟩)).box
    have bN6 := r2.stay (kd.heap HG.out.2.2.1) (by decide) (by decide) (by decide)
    have bA6 := r2.stay (kd.heap HG.out.2.2.2.1) (by decide) (by decide) (by decide)
    have cK : Chg w7 (w7.setCell ⟨K, 8, none⟩ (.slice (some ⟨g, 0, none⟩) 310 cap)) (fun k => k = K) := Chg.setCell (S := fun k => k = K) (Chg.refl w7 _) (.inl rfl) _
    have L1 : Ln w7 g1 k1 b1 ys1 := (HG.out.1.chg kd (fun x => x)).chg hc (fun e => by have := l8 g1 e; have := HG.out.2.2.2.2.1; omega)
    have L2 : Ln (w7.setCell ⟨K, 8, none⟩ (.slice (some ⟨g, 0, none⟩) 310 cap)) g1 k1 b1 ys1 := L1.chg cK (fun e => by obtain ⟨cs, q⟩ := L1.tp; rw [e, bK5] at q; simp at q)
    have g1lt : g1 < w6.drew.heap.size := by obtain ⟨cs, q⟩ := (HG.out.1.chg kd (fun x => x)).tp; exact hp_lt q
    refine ⟨g, cap, rfl, (cells_at bN5 8).1, ⟨_, (cells_at bK5 8).1⟩, (cells_at bK5 8).2, (cells_at bN6 8).1, ys, _, hy, hcap, ?_, ?_, r5, L2, ⟨by rw [hy]; exact r4, hl.f, hl.l⟩, DD.pg r1 r2 r3, bN6, bA6⟩
    · exact lab_same _ _ _ _ rfl
    · rw [r3 g1 g1lt]; exact HG.out.2.2.2.2.1
  refine reg20_48 w6 K N xs8.length lc8 b2.length c2 la8 a2 z8 y8 _ hLd _ (fun _ _ _ q _ h => by cases q <;> exact h) ?_
  intro g2 k2 w7 hR
  obtain ⟨ys2, σ4, hy2, hcp2, hs2, hs1, hg2, hn1, hn2, hD, bN, bA⟩ := hR
  obtain ⟨V2, hV2⟩ : ∃ V2, V2 = upd (upd V 7 (.slice (some ⟨g1, 0, none⟩) 310 k1)) 8 (.slice (some ⟨g2, 0, none⟩) 310 k2) := ⟨_, rfl⟩
  have e7 : V2 7 = .slice (some ⟨g1, 0, none⟩) 310 k1 := by rw [hV2, upd_other _ _ (by omega), upd_same]
  have e8 : V2 8 = .slice (some ⟨g2, 0, none⟩) 310 k2 := by rw [hV2, upd_same]
  rw [← hV2] at hD
  have HD4 : Hid (Dn W w1 (w7.setCell ⟨K, 8, none⟩ (.slice (some ⟨g2, 0, none⟩) 310 k2)) σ σ4 K V2 X MM fr hd ll B F p p ∧ (w7.setCell ⟨K, 8, none⟩ (.slice (some ⟨g2, 0, none⟩) 310 k2)).heap[N]? = some (.cells #[.int .i64 5, .int .i64 ce, .int .u64 tk, v, .bool th, .bool nt, .slice a1 b1.length c1, .int .u64 t1, .slice a2 b2.length c2, .int .u64 t2] 33 (0, 0)) ∧ (w7.setCell ⟨K, 8, none⟩ (.slice (some ⟨g2, 0, none⟩) 310 k2)).heap[A]? = some (.cells #[.bool th, .bool nt, .slice a1 b1.length c1, .int .u64 t1, .slice a2 b2.length c2, .int .u64 t2] 31 (0, 0)) ∧ Ln (w7.setCell ⟨K, 8, none⟩ (.slice (some ⟨g2, 0, none⟩) 310 k2)) g1 k1 b1 ys1 ∧ Ln (w7.setCell ⟨K, 8, none⟩ (.slice (some ⟨g2, 0, none⟩) 310 k2)) g2 k2 b2 ys2 ∧ W.heap.size ≤ g1 ∧ W.heap.size ≤ g2) := ⟨hD, bN, bA, hn1, hn2, HG.out.2.2.2.2.2, hg2⟩
  have HLo : Hid (Lo W σ4 K V2 X MM fr hd ll g1 k1 ys1 ∧ Lo W σ4 K V2 X MM fr hd ll g2 k2 ys2) := ⟨Lo.buf (j := 7) (by omega) (by omega) e7 hs1 HG.out.2.2.2.2.2 hy1, Lo.buf (j := 8) (by omega) (by omega) e8 hs2 hg2 hy2⟩
  have HV : Hid (V2 7 = .slice (some ⟨g1, 0, none⟩) 310 k1 ∧ V2 8 = .slice (some ⟨g2, 0, none⟩) 310 k2) := ⟨e7, e8⟩
  have n12 : g1 ≠ g2 := fun e => by rw [e, hs2] at hs1; omega
  clear hLd y8 hV8 l8 s8 o8 HG z8 hn1 hn2 hD bN bA hs1 hs2 hg2 e7 e8 hV2
  go_upto_region 49 with fail
  generalize w7.setCell ⟨K, 8, none⟩ (.slice (some ⟨g2, 0, none⟩) 310 k2) = w8 at *
  have z6 : w8.cell? ⟨N, 6, none⟩ = some (.slice a1 b1.length c1) := (cells_at HD4.out.2.1 6).1
  have z8 : w8.cell? ⟨N, 8, none⟩ = some (.slice a2 b2.length c2) := (cells_at HD4.out.2.1 8).1
  have y7 : w8.cell? ⟨K, 7, none⟩ = some (.slice (some ⟨g1, 0, none⟩) 310 k1) := by rw [← HV.out.1]; exact (HD4.out.1.bk.m.cell (i := 7) (by omega)).1
  have y8 : w8.cell? ⟨K, 8, none⟩ = some (.slice (some ⟨g2, 0, none⟩) 310 k2) := by rw [← HV.out.2]; exact (HD4.out.1.bk.m.cell (i := 8) (by omega)).1
  have p1 : IntKind.i64.wrap ((b1.length : Int) + 1) = (b1.length : Int) + 1 := w64 (by omega) (by omega)
  have p2 : IntKind.i64.wrap ((b2.length : Int) + 1) = (b2.length : Int) + 1 := w64 (by omega) (by omega)
  have p3 : (b1.length : Int) + 1 ≤ (k1 : Int) := by omega
  have p4 : (b2.length : Int) + 1 ≤ (k2 : Int) := by omega
  have p5 : ((b1.length : Int) + 1).toNat = b1.length + 1 := by omega
  have p6 : ((b2.length : Int) + 1).toNat = b2.length + 1 := by omega
  have p7 : (0 : Int) ≤ (b1.length : Int) + 1 := by omega
  have p8 : (0 : Int) ≤ (b2.length : Int) + 1 := by omega
  go_quiet (fail)
  go_upto_region 50 with fail
  have HD4b : Hid (Dn W w1 (w8.drewN nq) σ σ4 K V2 X MM fr hd ll B F p p ∧ (w8.drewN nq).heap[N]? = some (.cells #[.int .i64 5, .int .i64 ce, .int .u64 tk, v, .bool th, .bool nt, .slice a1 b1.length c1, .int .u64 t1, .slice a2 b2.length c2, .int .u64 t2] 33 (0, 0)) ∧ (w8.drewN nq).heap[A]? = some (.cells #[.bool th, .bool nt, .slice a1 b1.length c1, .int .u64 t1, .slice a2 b2.length c2, .int .u64 t2] 31 (0, 0)) ∧ Ln (w8.drewN nq) g1 k1 b1 ys1 ∧ Ln (w8.drewN nq) g2 k2 b2 ys2 ∧ W.heap.size ≤ g1 ∧ W.heap.size ≤ g2) := ⟨HD4.out.1.al (Kp.drewN w8 nq), HD4.out.2.1, HD4.out.2.2.1, HD4.out.2.2.2.1.chg (Kp.drewN w8 nq) (fun x => x), HD4.out.2.2.2.2.1.chg (Kp.drewN w8 nq) (fun x => x), HD4.out.2.2.2.2.2.1, HD4.out.2.2.2.2.2.2⟩
  clear HD4 z6 z8 y7 y8
  generalize w8.drewN nq = w9 at *
  have z6 : w9.cell? ⟨N, 6, none⟩ = some (.slice a1 b1.length c1) := (cells_at HD4b.out.2.1 6).1
  have z8 : w9.cell? ⟨N, 8, none⟩ = some (.slice a2 b2.length c2) := (cells_at HD4b.out.2.1 8).1
  have y8 : w9.cell? ⟨K, 8, none⟩ = some (.slice (some ⟨g2, 0, none⟩) 310 k2) := by rw [← HV.out.2]; exact (HD4b.out.1.bk.m.cell (i := 8) (by omega)).1
  go_quiet (fail)
  go_upto_region 51 with fail
  have HD4 : Hid (Dn W w1 (w9.drewN nq) σ σ4 K V2 X MM fr hd ll B F p p ∧ (w9.drewN nq).heap[N]? = some (.cells #[.int .i64 5, .int .i64 ce, .int .u64 tk, v, .bool th, .bool nt, .slice a1 b1.length c1, .int .u64 t1, .slice a2 b2.length c2, .int .u64 t2] 33 (0, 0)) ∧ (w9.drewN nq).heap[A]? = some (.cells #[.bool th, .bool nt, .slice a1 b1.length c1, .int .u64 t1, .slice a2 b2.length c2, .int .u64 t2] 31 (0, 0)) ∧ Ln (w9.drewN nq) g1 k1 b1 ys1 ∧ Ln (w9.drewN nq) g2 k2 b2 ys2 ∧ W.heap.size ≤ g1 ∧ W.heap.size ≤ g2) := ⟨HD4b.out.1.al (Kp.drewN w9 nq), HD4b.out.2.1, HD4b.out.2.2.1, HD4b.out.2.2.2.1.chg (Kp.drewN w9 nq) (fun x => x), HD4b.out.2.2.2.2.1.chg (Kp.drewN w9 nq) (fun x => x), HD4b.out.2.2.2.2.2.1, HD4b.out.2.2.2.2.2.2⟩
  clear HD4b z6 z8 y8 p1 p2 p3 p4 p5 p6 p7 p8
  generalize w9.drewN nq = w4 at *
  have z6 : w4.cell? ⟨N, 6, none⟩ = some (.slice a1 b1.length c1) := (cells_at HD4.out.2.1 6).1
  have z8 : w4.cell? ⟨N, 8, none⟩ = some (.slice a2 b2.length c2) := (cells_at HD4.out.2.1 8).1
  have m2 : w4.cell? ⟨A, 2, none⟩ = some (.slice a1 b1.length c1) := (cells_at HD4.out.2.2.1 2).1
  have m3 : w4.frozen? ⟨A, 2, none⟩ = false := (cells_at HD4.out.2.2.1 2).2
  have hk1 : (b1.length : Int) ≤ (k1 : Int) := by omega
  have hk2 : (b2.length : Int) ≤ (k2 : Int) := by omega
  have hAw : w1.heap.size ≤ A := HA0.out
  have nNA : N ≠ A := fun q => by
    have x1 := HD4.out.2.1
    have x2 := HD4.out.2.2.1
    rw [q, x2] at x1
    simp at x1
  have n1A : g1 ≠ A := fun q => by
    obtain ⟨cs, x1⟩ := HD4.out.2.2.2.1.tp
    have x2 := HD4.out.2.2.1
    rw [q, x2] at x1
    simp at x1
  have n2A : g2 ≠ A := fun q => by
    obtain ⟨cs, x1⟩ := HD4.out.2.2.2.2.1.tp
    have x2 := HD4.out.2.2.1
    rw [q, x2] at x1
    simp at x1
  -- the tail
  have D5 := HD4.out.1.tmp (Chg.setCell (p := ⟨A, 2, none⟩) (S := fun k => k = A) (Chg.refl w4 _) (.inl rfl) (.slice (some ⟨g1, 0, none⟩) b1.length k1)) HD4.out.2.2.1 hAw HH.out.1.kp.size
  have cA := Chg.setCell (p := ⟨A, 2, none⟩) (S := fun k => k = A) (Chg.refl w4 _) (.inl rfl) (.slice (some ⟨g1, 0, none⟩) b1.length k1)
  have B5 : (w4.setCell ⟨A, 2, none⟩ (.slice (some ⟨g1, 0, none⟩) b1.length k1)).heap[A]? = some (.cells #[.bool th, .bool nt, .slice (some ⟨g1, 0, none⟩) b1.length k1, .int .u64 t1, .slice a2 b2.length c2, .int .u64 t2] 31 (0, 0)) := box_at HD4.out.2.2.1 2 _
  have HD5 : Hid (Dn W w1 (w4.setCell ⟨A, 2, none⟩ (.slice (some ⟨g1, 0, none⟩) b1.length k1)) σ σ4 K V2 X MM fr hd ll B F p p ∧ (w4.setCell ⟨A, 2, none⟩ (.slice (some ⟨g1, 0, none⟩) b1.length k1)).heap[N]? = some (.cells #[.int .i64 5, .int .i64 ce, .int .u64 tk, v, .bool th, .bool nt, .slice a1 b1.length c1, .int .u64 t1, .slice a2 b2.length c2, .int .u64 t2] 33 (0, 0)) ∧ (w4.setCell ⟨A, 2, none⟩ (.slice (some ⟨g1, 0, none⟩) b1.length k1)).heap[A]? = some (.cells #[.bool th, .bool nt, .slice (some ⟨g1, 0, none⟩) b1.length k1, .int .u64 t1, .slice a2 b2.length c2, .int .u64 t2] 31 (0, 0)) ∧ Ln (w4.setCell ⟨A, 2, none⟩ (.slice (some ⟨g1, 0, none⟩) b1.length k1)) g1 k1 b1 ys1 ∧ Ln (w4.setCell ⟨A, 2, none⟩ (.slice (some ⟨g1, 0, none⟩) b1.length k1)) g2 k2 b2 ys2) := ⟨D5, cA.heap HD4.out.2.1 nNA, B5, HD4.out.2.2.2.1.chg cA n1A, HD4.out.2.2.2.2.1.chg cA n2A⟩
  have m4 : (w4.setCell ⟨A, 2, none⟩ (.slice (some ⟨g1, 0, none⟩) b1.length k1)).cell? ⟨A, 4, none⟩ = some (.slice a2 b2.length c2) := (cells_at B5 4).1
  have m5 : (w4.setCell ⟨A, 2, none⟩ (.slice (some ⟨g1, 0, none⟩) b1.length k1)).frozen? ⟨A, 4, none⟩ = false := (cells_at B5 4).2
  clear D5 cA B5
  go_upto_region 52 with fail
  generalize w4.setCell ⟨A, 2, none⟩ (.slice (some ⟨g1, 0, none⟩) b1.length k1) = w5 at *
  have D6 := HD5.out.1.tmp (Chg.setCell (p := ⟨A, 4, none⟩) (S := fun k => k = A) (Chg.refl w5 _) (.inl rfl) (.slice (some ⟨g2, 0, none⟩) b2.length k2)) HD5.out.2.2.1 hAw HH.out.1.kp.size
  have cA := Chg.setCell (p := ⟨A, 4, none⟩) (S := fun k => k = A) (Chg.refl w5 _) (.inl rfl) (.slice (some ⟨g2, 0, none⟩) b2.length k2)
  have B6 : (w5.setCell ⟨A, 4, none⟩ (.slice (some ⟨g2, 0, none⟩) b2.length k2)).heap[A]? = some (.cells #[.bool th, .bool nt, .slice (some ⟨g1, 0, none⟩) b1.length k1, .int .u64 t1, .slice (some ⟨g2, 0, none⟩) b2.length k2, .int .u64 t2] 31 (0, 0)) := box_at HD5.out.2.2.1 4 _
  have HD6 : Hid (Dn W w1 (w5.setCell ⟨A, 4, none⟩ (.slice (some ⟨g2, 0, none⟩) b2.length k2)) σ σ4 K V2 X MM fr hd ll B F p p ∧ (w5.setCell ⟨A, 4, none⟩ (.slice (some ⟨g2, 0, none⟩) b2.length k2)).heap[N]? = some (.cells #[.int .i64 5, .int .i64 ce, .int .u64 tk, v, .bool th, .bool nt, .slice a1 b1.length c1, .int .u64 t1, .slice a2 b2.length c2, .int .u64 t2] 33 (0, 0)) ∧ (w5.setCell ⟨A, 4, none⟩ (.slice (some ⟨g2, 0, none⟩) b2.length k2)).heap[A]? = some (.cells #[.bool th, .bool nt, .slice (some ⟨g1, 0, none⟩) b1.length k1, .int .u64 t1, .slice (some ⟨g2, 0, none⟩) b2.length k2, .int .u64 t2] 31 (0, 0)) ∧ Ln (w5.setCell ⟨A, 4, none⟩ (.slice (some ⟨g2, 0, none⟩) b2.length k2)) g1 k1 b1 ys1 ∧ Ln (w5.setCell ⟨A, 4, none⟩ (.slice (some ⟨g2, 0, none⟩) b2.length k2)) g2 k2 b2 ys2) := ⟨D6, cA.heap HD5.out.2.1 nNA, B6, HD5.out.2.2.2.1.chg cA n1A, HD5.out.2.2.2.2.chg cA n2A⟩
  clear D6 cA B6
  go_upto_region 53 with fail
  generalize w5.setCell ⟨A, 4, none⟩ (.slice (some ⟨g2, 0, none⟩) b2.length k2) = w6 at *
  clear m2 m3 m4 m5 z6 z8
  obtain ⟨D6, bN, bA, e1, e2⟩ := HD6.out
  have f0 : w6.cell? ⟨A, 0, none⟩ = some (.bool th) := (cells_at bA 0).1
  have f1 : w6.cell? ⟨A, 1, none⟩ = some (.bool nt) := (cells_at bA 1).1
  have f2 : w6.cell? ⟨A, 2, none⟩ = some (.slice (some ⟨g1, 0, none⟩) b1.length k1) := (cells_at bA 2).1
  have f3 : w6.cell? ⟨A, 3, none⟩ = some (.int .u64 t1) := (cells_at bA 3).1
  have f4 : w6.cell? ⟨A, 4, none⟩ = some (.slice (some ⟨g2, 0, none⟩) b2.length k2) := (cells_at bA 4).1
  have f5 : w6.cell? ⟨A, 5, none⟩ = some (.int .u64 t2) := (cells_at bA 5).1
  have nB1 : g1 ≠ B := fun q => by
    obtain ⟨cs, hx⟩ := D6.x.tp
    obtain ⟨cs', hy⟩ := e1.tp
    rw [q, hx] at hy
    simp at hy
  have nB2 : g2 ≠ B := fun q => by
    obtain ⟨cs, hx⟩ := D6.x.tp
    obtain ⟨cs', hy⟩ := e2.tp
    rw [q, hx] at hy
    simp at hy
  have nNB : N ≠ B := fun q => by
    obtain ⟨cs, hx⟩ := D6.x.tp
    rw [q, hx] at bN
    simp at bN
  have hLd := D6.x.load D6.bk.fz th nt (.slice (some ⟨g1, 0, none⟩) b1.length k1) (.slice (some ⟨g2, 0, none⟩) b2.length k2) b1 b2 t1 t2 (e1.bs hl1) (e2.bs hl2) (by simpa [blk] using nB1) (by simpa [blk] using nB2)
  clear D6 bN bA e1 e2
  go_wp2_with fail
  go_at_call 19
  refine hLd.mono ?_
  rintro e w7 ⟨rfl, x7, c7⟩
  have HD7 : Hid (Dn W w1 w7 σ σ4 K V2 X MM fr hd ll B F (p.lP th nt b1 b2 t1 t2) p ∧ w7.heap[N]? = some (.cells #[.int .i64 5, .int .i64 ce, .int .u64 tk, v, .bool th, .bool nt, .slice a1 b1.length c1, .int .u64 t1, .slice a2 b2.length c2, .int .u64 t2] 33 (0, 0)) ∧ Ln w7 g1 k1 b1 ys1 ∧ Ln w7 g2 k2 b2 ys2) := ⟨HD6.out.1.mx x7 c7, c7.heap HD6.out.2.1 nNB, HD6.out.2.2.2.1.chg c7 nB1, HD6.out.2.2.2.2.chg c7 nB2⟩
  clear x7 c7 hLd f0 f1 f2 f3 f4 f5
  have z6 : w7.cell? ⟨N, 6, none⟩ = some (.slice a1 b1.length c1) := (cells_at HD7.out.2.1 6).1
  go_wp2_with fail
  go_at_call 32
  refine (kept_any w7 g1 k1 b1 ys1 HD7.out.2.2.1 hl1 _ (HH.out.2.2.1.kp HD7.out.1.kp)).mono ?_
  rintro e w8 ⟨rfl, ⟨zs, hz, oz⟩, c8⟩
  have nN1 : N ≠ g1 := fun q => by
    obtain ⟨cs, hx⟩ := HD7.out.2.2.1.tp
    have := HD7.out.2.1
    rw [q, hx] at this
    simp at this
  have nN2 : N ≠ g2 := fun q => by
    obtain ⟨cs, hx⟩ := HD7.out.2.2.2.tp
    have := HD7.out.2.1
    rw [q, hx] at this
    simp at this
  have HD8 : Hid (Dn W w1 w8 σ σ4 K V2 X MM fr hd ll B F (p.lP th nt b1 b2 t1 t2) p ∧ w8.heap[N]? = some (.cells #[.int .i64 5, .int .i64 ce, .int .u64 tk, v, .bool th, .bool nt, .slice a1 b1.length c1, .int .u64 t1, .slice a2 b2.length c2, .int .u64 t2] 33 (0, 0)) ∧ Ln w8 g2 k2 b2 ys2) := ⟨HD7.out.1.kept HD7.out.2.2.1 HLo.out.1 hz oz c8, c8.heap HD7.out.2.1 nN1, HD7.out.2.2.2.chg c8 (fun q => n12 q.symm)⟩
  clear z6 hz oz c8
  have z8 : w8.cell? ⟨N, 8, none⟩ = some (.slice a2 b2.length c2) := (cells_at HD8.out.2.1 8).1
  go_wp2_with fail
  go_at_call 32
  refine (kept_any w8 g2 k2 b2 ys2 HD8.out.2.2 hl2 _ (HH.out.2.2.2.kp HD8.out.1.kp)).mono ?_
  rintro e w9 ⟨rfl, ⟨zs', hz, oz⟩, c9⟩
  have HD9 : Hid (Dn W w1 w9 σ σ4 K V2 X MM fr hd ll B F (p.lP th nt b1 b2 t1 t2) p ∧ w9.heap[N]? = some (.cells #[.int .i64 5, .int .i64 ce, .int .u64 tk, v, .bool th, .bool nt, .slice a1 b1.length c1, .int .u64 t1, .slice a2 b2.length c2, .int .u64 t2] 33 (0, 0))) := ⟨HD8.out.1.kept HD8.out.2.2 HLo.out.2 hz oz c9, c9.heap HD8.out.2.1 nN2⟩
  clear z8 hz oz c9
  have bN := HD9.out.2
  have y4 : w9.cell? ⟨N, 4, none⟩ = some (.bool th) := (cells_at bN 4).1
  have y5 : w9.cell? ⟨N, 5, none⟩ = some (.bool nt) := (cells_at bN 5).1
  have y6 : w9.cell? ⟨N, 6, none⟩ = some (.slice a1 b1.length c1) := (cells_at bN 6).1
  have y7 : w9.cell? ⟨N, 7, none⟩ = some (.int .u64 t1) := (cells_at bN 7).1
  have y8 : w9.cell? ⟨N, 8, none⟩ = some (.slice a2 b2.length c2) := (cells_at bN 8).1
  have y9 : w9.cell? ⟨N, 9, none⟩ = some (.int .u64 t2) := (cells_at bN 9).1
  have hY := HD9.out.1.y.load HD9.out.1.bk.fz th nt _ _ b1 b2 t1 t2 (HH.out.2.2.1.kp HD9.out.1.kp) (HH.out.2.2.2.kp HD9.out.1.kp)
  clear bN
  have hq : (p.lE th nt b1 b2 t1 t2 == p.lE th nt b1 b2 t1 t2) = true := by simp
  generalize p.lE th nt b1 b2 t1 t2 = er at *
  go_wp2_with (first | (go_at_call 39; refine hY.mono ?_; rintro e w10 ⟨rfl, y5, c5⟩) | fail)
  go_ret
  exact ⟨rfl, StP.al (HD9.out.1.my y5 c5).stp HH.out.2.1⟩
end
end Go.Proofs.Ytibpbemenjgncaa
