import Derived.Test.YtakddfhcafpceaaBb
namespace Go.Proofs.Ytakddfhcafpceaa
open Go.ChangeShapes Go.WideShapes Go.ChangeAt Go.RowKit Go.Shelf
set_option linter.unusedVariables false
/-- The window of the list that window k is. -/
def Hr.at (h : Hr) (k : Nat) : Wn := h.L.getD (k % h.L.length) ⟨0, 0, 0⟩
/-- When it starts, if it is in time. -/
def Hr.st (h : Hr) (k : Nat) : Nat := if k / h.L.length > (9223372036854775807 - (h.at k).s) / h.M then 9223372036854775807 else (h.at k).s + k / h.L.length * h.M
def Hr.wn (h : Hr) (k : Nat) : Wn := ⟨(h.at k).c, h.st k, (h.at k).l⟩
theorem Hr.ok.mod {h : Hr} (o : h.ok) (k : Nat) : k % h.L.length < h.L.length := Nat.mod_lt _ o.n1
theorem Hr.ok.at_eq {h : Hr} (o : h.ok) (k : Nat) : h.at k = h.L[k % h.L.length]'(o.mod k) := by
  unfold Hr.at; rw [List.getD_eq_getElem?_getD, List.getElem?_eq_getElem (o.mod k)]; rfl
theorem Hr.ok.at_ok {h : Hr} (o : h.ok) (k : Nat) : 1 ≤ (h.at k).c ∧ (h.at k).c ≤ 8 ∧ 1 ≤ (h.at k).l ∧ (h.at k).s + (h.at k).l ≤ h.M := by
  rw [o.at_eq]; exact o.c _ _
theorem st_far {h : Hr} {k : Nat} (hf : k / h.L.length > (9223372036854775807 - (h.at k).s) / h.M) : h.st k = 9223372036854775807 := by unfold Hr.st; rw [if_pos hf]
theorem st_near {h : Hr} {k : Nat} (hf : ¬ k / h.L.length > (9223372036854775807 - (h.at k).s) / h.M) : h.st k = (h.at k).s + k / h.L.length * h.M := by unfold Hr.st; rw [if_neg hf]
theorem st_in {h : Hr} (o : h.ok) {k : Nat} (hf : ¬ k / h.L.length > (9223372036854775807 - (h.at k).s) / h.M) : (h.at k).s + k / h.L.length * h.M ≤ 9223372036854775807 := by
  have h1 : k / h.L.length * h.M ≤ 9223372036854775807 - (h.at k).s := (Nat.le_div_iff_mul_le (by have := o.m1; omega)).1 (by omega)
  have := (o.at_ok k).2.2.2
  have := o.m2
  omega
theorem st_le {h : Hr} (o : h.ok) (k : Nat) : h.st k ≤ 9223372036854775807 := by
  by_cases hf : k / h.L.length > (9223372036854775807 - (h.at k).s) / h.M
  · rw [st_far hf]; omega
  · rw [st_near hf]; exact st_in o hf

set_option maxHeartbeats 2000000 in
set_option maxRecDepth 10000 in
theorem window_any (w : World) (B : Nat) (h : Hr) (i : IsH w B h) (k : Nat) (hk : k < 18446744073709551616) :
    Calls Try.prog 22 #[.pointer (some ⟨B, 0, none⟩), .int .u64 (k : Nat)] w fun e w' => e = .returned (.agg (h.wn k).cs) ∧ Kp w w' := by
  obtain ⟨g, cap, h1, h2, h3⟩ := i.ex
  obtain ⟨c0, c1, c2⟩ := h3.c _ (i.ok.mod k)
  rw [← i.ok.at_eq k] at c0 c1 c2
  simp only [Nat.zero_add] at c0 c1 c2
  have hm := i.ok.mod k
  have n2 := i.ok.n2
  have m1 := i.ok.m1
  have m2 := i.ok.m2
  obtain ⟨_, _, _, hsl⟩ := i.ok.at_ok k
  have HO : Hid h.ok := i.ok
  have HW : Hid ((h.wn k).cs = #[.int .i64 (h.at k).c, .int .u64 (h.st k : Nat), .int .u64 ((h.at k).l : Nat)]) := rfl
  have hS1 := @st_far h k
  have hS2 := @st_near h k
  have hS3 := @st_in h i.ok k
  clear h3 i
  generalize (h.wn k).cs = WC at *
  generalize h.st k = ST at *
  generalize (h.at k).c = qc at *
  generalize (h.at k).s = qs at *
  generalize (h.at k).l = ql at *
  generalize hnl : h.L.length = n at *
  generalize h.M = M at *
  clear hnl
  obtain ⟨mo, hmo⟩ : ∃ mo, mo = k % n := ⟨_, rfl⟩
  obtain ⟨dv, hdv⟩ : ∃ dv, dv = k / n := ⟨_, rfl⟩
  rw [← hmo] at hm c0 c1 c2
  rw [← hdv] at hS1 hS2 hS3
  have hmoz : (k : Int).tmod (n : Int) = (mo : Nat) := by rw [Int.tmod_eq_emod_of_nonneg (by omega), hmo]; simp
  have hdvz : (k : Int).tdiv (n : Int) = (dv : Nat) := by rw [Int.tdiv_eq_ediv_of_nonneg (by omega), hdv]; simp
  have hmo2 : mo < 18446744073709551616 := by omega
  have hdv2 : dv < 18446744073709551616 := by have := Nat.div_le_self k n; omega
  clear hmo hdv
  have hn0 : ¬ (n : Int) = 0 := by omega
  have hn0' : ¬ n = 0 := by omega
  have hm0 : ¬ (M : Int) = 0 := by omega
  have hm0' : ¬ M = 0 := by omega
  obtain ⟨dw, hdw⟩ : ∃ dw, dw = (9223372036854775807 - qs) / M := ⟨_, rfl⟩
  rw [← hdw] at hS1 hS2 hS3
  have hsub : IntKind.u64.wrap ((9223372036854775807 : Int) - (qs : Nat)) = ((9223372036854775807 - qs : Nat) : Int) := by
    rw [show (9223372036854775807 : Int) - (qs : Nat) = ((9223372036854775807 - qs : Nat) : Int) by omega]; exact u64n (by omega)
  have hdwz : ((9223372036854775807 - qs : Nat) : Int).tdiv (M : Int) = (dw : Nat) := by rw [Int.tdiv_eq_ediv_of_nonneg (by omega), hdw]; simp
  have hdw2 : dw < 18446744073709551616 := by have := Nat.div_le_self (9223372036854775807 - qs) M; omega
  clear hdw
  have z0 : (w.alloc (.cells #[.int .i64 0, .int .u64 0, .int .u64 0] 36)).heap[w.heap.size]? = some (.cells #[.int .i64 0, .int .u64 0, .int .u64 0] 36 (0, 0)) := heap_alloc_new w _
  have k0 := Kp.al w (.cells #[.int .i64 0, .int .u64 0, .int .u64 0] 36)
  have HK0 : Hid (Kp w (w.alloc (.cells #[.int .i64 0, .int .u64 0, .int .u64 0] 36))) := k0
  have e1 := k0.cell h1
  have e2 := k0.cell h2
  have f0 := k0.cell c0
  have f1 := k0.cell c1
  have f2 := k0.cell c2
  have hsz : w.heap.size < (w.alloc (.cells #[.int .i64 0, .int .u64 0, .int .u64 0] 36)).heap.size := by simp
  go_enter Try.func22, Try.ntmps22
  go_upto_region 2 with fail
  generalize hw1 : w.alloc (.cells #[.int .i64 0, .int .u64 0, .int .u64 0] 36) = w1 at *
  have k1 := Kp.al w1 (.cells #[.int .i64 0, .int .u64 0, .int .u64 0] 36)
  have e1' := k1.cell e1
  have e2' := k1.cell e2
  have f0' := k1.cell f0
  have f1' := k1.cell f1
  have f2' := k1.cell f2
  have z1 := heap_alloc_new w1 (.cells #[.int .i64 0, .int .u64 0, .int .u64 0] 36)
  have z1' := k1.heap z0
  clear h1 h2 c0 c1 c2
  go_region
  have g7 := heap_alloc_new w1 (.cells #[.int .i64 qc, .int .u64 (qs : Nat), .int .u64 (ql : Nat)] 36)
  have k2 : Kp w1 (w1.alloc (.cells #[.int .i64 qc, .int .u64 (qs : Nat), .int .u64 (ql : Nat)] 36)).drew := (Kp.al w1 _).trans (Kp.drew _)
  have HK2 : Hid (Kp w w1 ∧ Kp w1 (w1.alloc (.cells #[.int .i64 qc, .int .u64 (qs : Nat), .int .u64 (ql : Nat)] 36)).drew) := ⟨HK0.out, k2⟩
  have y1 := k2.cell e1
  have y2 := k2.cell e2
  have g4 := k2.heap z0
  have g7' := (Kp.drew _).heap g7
  have n47 : w.heap.size ≠ w1.heap.size := by omega
  generalize (w1.alloc (.cells #[.int .i64 qc, .int .u64 (qs : Nat), .int .u64 (ql : Nat)] 36)).drew = w2 at *
  have HS : Hid (w.heap.size < w1.heap.size) := hsz
  clear g7 k2 e1 e2 z0 z1 z1' e1' e2' f0' f1' f2' f0 f1 f2 k1 hw1 HK0 k0 hsz
  obtain ⟨b4, hb4⟩ : ∃ b4, b4 = w.heap.size := ⟨_, rfl⟩
  obtain ⟨b7, hb7⟩ : ∃ b7, b7 = w1.heap.size := ⟨_, rfl⟩
  rw [← hb4, ← hb7] at n47
  rw [← hb4] at g4 ⊢
  rw [← hb7] at g7' ⊢
  have HB : Hid (b4 = w.heap.size ∧ b7 = w1.heap.size) := ⟨hb4, hb7⟩
  clear hb4 hb7
  have s0 : w2.cell? ⟨b7, 0, none⟩ = some (.int .i64 qc) := (cells_at g7' 0).1
  have s1 : w2.cell? ⟨b7, 1, none⟩ = some (.int .u64 (qs : Nat)) := (cells_at g7' 1).1
  have s2 : w2.cell? ⟨b7, 2, none⟩ = some (.int .u64 (ql : Nat)) := (cells_at g7' 2).1
  have sf := (cells_at g7' 1).2
  have r0 : w2.cell? ⟨b4, 0, none⟩ = some (.int .i64 0) := (cells_at g4 0).1
  have r1 : w2.cell? ⟨b4, 1, none⟩ = some (.int .u64 0) := (cells_at g4 1).1
  have r2 : w2.cell? ⟨b4, 2, none⟩ = some (.int .u64 0) := (cells_at g4 2).1
  have rf := fun i => (cells_at g4 i).2
  have rf0 := rf 0
  have rf1 := rf 1
  have rf2 := rf 2
  clear rf
  have n74 : b7 ≠ b4 := fun e => n47 e.symm
  clear g4 g7'
  go_upto_region 3 with fail
  go_quiet (fail)
  have HK3 : Hid (Kp w w1 ∧ Kp w1 (w2.drewN nq)) := ⟨HK2.out.1, HK2.out.2.trans (Kp.drewN _ _)⟩
  have kd := Kp.drewN w2 nq
  have t0 := kd.cell s0
  have t1 := kd.cell s1
  have t2 := kd.cell s2
  have tf : (w2.drewN nq).frozen? ⟨b7, 1, none⟩ = false := sf
  have v0 := kd.cell r0
  have v1 := kd.cell r1
  have v2 := kd.cell r2
  have vf0 : (w2.drewN nq).frozen? ⟨b4, 0, none⟩ = false := rf0
  have vf1 : (w2.drewN nq).frozen? ⟨b4, 1, none⟩ = false := rf1
  have vf2 : (w2.drewN nq).frozen? ⟨b4, 2, none⟩ = false := rf2
  have x1 := kd.cell y1
  generalize w2.drewN nq = w3 at *
  clear s0 s1 s2 sf r0 r1 r2 rf0 rf1 rf2 y1 y2 kd HK2
  have hend : ∀ (W5 : World) (x y : Value), Kp w3 (W5) ∨ (∃ u, W5 = w3.setCell ⟨b7, 1, none⟩ u) ∨ (∃ u, W5 = (w3.setCell ⟨b7, 1, none⟩ u).drew) → Kp w (((W5.setCell ⟨b4, 0, none⟩ (.int .i64 qc)).setCell ⟨b4, 1, none⟩ x).setCell ⟨b4, 2, none⟩ y) := fun W5 x y h5 => by
    have e := HB.out
    have h0 := HK3.out.1.trans HK3.out.2
    have h9 := HS.out
    have e4 : w.heap.size ≤ b4 := by rw [e.1]; exact Nat.le_refl _
    have e7 : w.heap.size ≤ b7 := by rw [e.2]; omega
    have hW : Kp w W5 := by
      rcases h5 with h | ⟨u, rfl⟩ | ⟨u, rfl⟩
      · exact h0.trans h
      · exact Chg.setCell h0 (.inr e7) _
      · exact (Chg.setCell h0 (.inr e7) _).drew
    exact Chg.setCell (Chg.setCell (Chg.setCell hW (.inr e4) _) (.inr e4) _) (.inr e4) _
  by_cases hf : dw < dv
  · have HST : Hid (ST = 9223372036854775807) := hS1 hf
    clear hS1 hS2 hS3
    go_wp2
    rw [HW.out, HST.out]
    refine bodyPost_ret (v := .agg #[.int .i64 qc, .int .u64 9223372036854775807, .int .u64 (ql : Nat)]) (by simp [results, Try.results22, go_sem, v0, v1, v2]) rfl ⟨by simp, hend _ _ _ (.inr (.inl ⟨_, rfl⟩))⟩
  · have HST : Hid (ST = qs + dv * M) := hS2 hf
    have hS4 := hS3 hf
    clear hS1 hS2 hS3
    go_upto_region 6 with fail
    go_region
    go_wp2
    rw [HW.out, HST.out]
    refine bodyPost_ret (v := .agg #[.int .i64 qc, .int .u64 ((qs : Int) + dv * M), .int .u64 (ql : Nat)]) (by simp [results, Try.results22, go_sem, v0, v1, v2]) rfl ⟨by simp, hend _ _ _ (.inr (.inr ⟨_, rfl⟩))⟩
end Go.Proofs.Ytakddfhcafpceaa
