import Derived.Test.YthgpcmickgcdhaaCe
import Derived.Shelf.Abstract
namespace Go.Proofs.Ythgpcmickgcdhaa
open Go.ChangeShapes Go.WideShapes Go.ChangeAt Go.RowKit
set_option linter.unusedVariables false
theorem wpList_wanted {P : Program} {ops : Array Oper} {Q : Exit → Act → World → Prop} {a : Act} {w : World} {rest : List Oper} {o : Oper} (hw : Region.wanted o (yielded ops a.tmps) = true)
    (h : ∀ K : Act → World → Prop, (∀ a w, wpList P ops Q rest a w → K a w) → o.wp P a w K Q) : wpList P ops Q (o :: rest) a w :=
  wpList_step fun K hK => by rw [if_pos hw]; exact h K hK
theorem gload_mid {P : Program} {ops : Array Oper} {rest : List Oper} {op : Oper} {a : Act} {w : World} {Q : Exit → Act → World → Prop} (hgd : Region.wanted op (yielded ops a.tmps) = true) (ty : TypeId) (x : Operand) (ho : op.op = .load ty x)
    (b o : Nat) (hx : a.eval x = .pointer (some ⟨b, o, none⟩)) (cs : List Value) (d : TypeDesc) (hc : w.rangeAt b o cs)
    (hu : P.underlying ty = some d) (hd : d.isRow = true) (hi : (P.info? ty).map (·.size) = some cs.length)
    (h : wpList P ops Q rest (a.put op.dst (.agg cs.toArray)) w) : wpList P ops Q (op :: rest) a w :=
  wpList_wanted hgd fun _ hK => wp_load_mid ty x ho b o hx cs d hc hu hd hi (hK _ _ h)
theorem size31 (A : CfA) (g : Cf) : (Try.prog.info? 31).map (·.size) = some (cfC A g).length := by
  show _ = some 12
  kernel_rfl
/-- The box of a configuration. -/
theorem cfRange {w : World} {B : Nat} {A : CfA} {g : Cf} (h : w.heap[B]? = some (.cells (cfC A g).toArray 31 (0, 0))) : w.rangeAt B 0 (cfC A g) := fun j v hv => by
  rw [Nat.zero_add, (cells_at h j).1, List.getElem?_toArray]; exact hv
set_option maxHeartbeats 2000000 in
set_option maxRecDepth 10000 in
theorem add_no (w : World) (A : CfA) (g : Cf) (M : Nat) (a b : Int) (hno : isE g.n a b = false) :
    Calls Try.prog 42 #[.map (some M), .agg (cfC A g).toArray, .int .i64 a, .int .i64 b] w fun e w' => e = .returned (.tuple #[]) ∧ Kp w w' := by
  have hI := fun w a => isCell_any w A g a
  have g0 : (w.alloc (.cells (cfC A g).toArray 31)).heap[w.heap.size]? = some (.cells (cfC A g).toArray 31 (0, 0)) := heap_alloc_new w _
  have k0 : Kp w (w.alloc (.cells (cfC A g).toArray 31)) := (Chg.refl _ _).alloc _
  have l31 := size31 A g
  have u31 := Try.underlying31
  obtain ⟨w1, hw1⟩ : ∃ w1, w1 = w.alloc (.cells (cfC A g).toArray 31) := ⟨_, rfl⟩
  rw [← hw1] at g0 k0
  have HW : Hid (w1 = w.alloc (.cells (cfC A g).toArray 31)) := hw1
  have r0 := cfRange g0
  obtain ⟨LC, hLC⟩ : ∃ LC, LC = cfC A g := ⟨_, rfl⟩
  rw [← hLC] at HW hI l31 r0 ⊢
  unfold isE at hno
  cases h1 : isC g.n a with
  | false =>
    rw [← hLC] at g0
    have hI1 := hI w1 a
    rw [h1] at hI1
    clear hw1 hI hLC g0 hno h1
    go_enter Try.func42, Try.ntmps42
    go_upto_region 1 with (refine wpList_box_run rfl 31 (.tmp 1) rfl LC.toArray rfl ?_; simp only [Act.put, List.setIfInBounds_toArray, List.set_cons_zero, List.set_cons_succ])
    rw [← HW.out]
    go_wp2_with (first | (refine wpList_load_mid rfl 31 (.tmp 5) rfl w.heap.size 0 rfl LC _ r0 u31 rfl l31 ?_; simp only [Act.put, List.setIfInBounds_toArray, List.set_cons_zero, List.set_cons_succ]) | (go_at_call 21; refine hI1.mono ?_; rintro e w2 ⟨rfl, k2⟩))
    go_end0
    exact ⟨rfl, Kp.trans k0 k2⟩
  | true =>
    rw [← hLC] at g0
    have hI1 := hI w1 a
    have hI2 := fun w => hI w b
    rw [h1] at hI1
    have hab : isC g.n b = false ∨ (isC g.n b = true ∧ a = b) := by
      rw [h1] at hno
      cases h2 : isC g.n b with
      | false => exact .inl rfl
      | true => rw [h2] at hno; simp at hno; exact .inr ⟨rfl, hno⟩
    clear hw1 hI hLC g0 hno h1
    rcases hab with h2 | ⟨h2, rfl⟩
    all_goals rw [h2] at hI2
    all_goals clear h2
    · go_enter Try.func42, Try.ntmps42
      go_upto_region 1 with (refine wpList_box_run rfl 31 (.tmp 1) rfl LC.toArray rfl ?_; simp only [Act.put, List.setIfInBounds_toArray, List.set_cons_zero, List.set_cons_succ])
      rw [← HW.out]
      go_wp2_with (first | (refine wpList_load_mid rfl 31 (.tmp 5) rfl w.heap.size 0 rfl LC _ r0 u31 rfl l31 ?_; simp only [Act.put, List.setIfInBounds_toArray, List.set_cons_zero, List.set_cons_succ]) | fail)
      go_at_call 21
      refine hI1.mono ?_
      rintro e w2 ⟨rfl, k2⟩
      have r2 := range_kp r0 k2
      have hI3 := hI2 w2
      clear hI1 hI2
      go_wp2_with (first | (refine gload_mid (by kernel_rfl) 31 (.tmp 5) rfl w.heap.size 0 rfl LC _ r2 u31 rfl l31 ?_; simp only [Act.put, List.setIfInBounds_toArray, List.set_cons_zero, List.set_cons_succ]) | fail)
      go_at_call 21
      refine hI3.mono ?_
      rintro e w3 ⟨rfl, k3⟩
      clear hI3
      go_wp2_with fail
      go_end0
      exact ⟨rfl, Kp.trans (Kp.trans k0 k2) k3⟩
    · go_enter Try.func42, Try.ntmps42
      go_upto_region 1 with (refine wpList_box_run rfl 31 (.tmp 1) rfl LC.toArray rfl ?_; simp only [Act.put, List.setIfInBounds_toArray, List.set_cons_zero, List.set_cons_succ])
      rw [← HW.out]
      go_wp2_with (first | (refine wpList_load_mid rfl 31 (.tmp 5) rfl w.heap.size 0 rfl LC _ r0 u31 rfl l31 ?_; simp only [Act.put, List.setIfInBounds_toArray, List.set_cons_zero, List.set_cons_succ]) | fail)
      go_at_call 21
      refine hI1.mono ?_
      rintro e w2 ⟨rfl, k2⟩
      have r2 := range_kp r0 k2
      have hI3 := hI2 w2
      clear hI1 hI2
      go_wp2_with (first | (refine gload_mid (by kernel_rfl) 31 (.tmp 5) rfl w.heap.size 0 rfl LC _ r2 u31 rfl l31 ?_; simp only [Act.put, List.setIfInBounds_toArray, List.set_cons_zero, List.set_cons_succ]) | fail)
      go_at_call 21
      refine hI3.mono ?_
      rintro e w3 ⟨rfl, k3⟩
      clear hI3
      go_wp2_with fail
      go_end0
      exact ⟨rfl, Kp.trans (Kp.trans k0 k2) k3⟩
set_option maxHeartbeats 2000000 in
set_option maxRecDepth 10000 in
theorem add_yes (w : World) (A : CfA) (g : Cf) (M cnt : Nat) (f : Ed → Bool) (hM : EM w M cnt f) (hcnt : cnt ≤ 2000000) (a b : Int) (hE : isE g.n a b = true) (hn : g.n < 100000) :
    Calls Try.prog 42 #[.map (some M), .agg (cfC A g).toArray, .int .i64 a, .int .i64 b] w fun e w' => e = .returned (.tuple #[]) ∧ EM w' M (cnt + 1) (fun x => f x || decide (x = ⟨a, b⟩)) ∧ Chg w w' (fun k => k = M) := by
  have hI := fun w a => isCell_any w A g a
  have g0 : (w.alloc (.cells (cfC A g).toArray 31)).heap[w.heap.size]? = some (.cells (cfC A g).toArray 31 (0, 0)) := heap_alloc_new w _
  have k0 : Kp w (w.alloc (.cells (cfC A g).toArray 31)) := (Chg.refl _ _).alloc _
  have l31 := size31 A g
  have u31 := Try.underlying31
  obtain ⟨w1, hw1⟩ : ∃ w1, w1 = w.alloc (.cells (cfC A g).toArray 31) := ⟨_, rfl⟩
  rw [← hw1] at g0 k0
  have HW : Hid (w1 = w.alloc (.cells (cfC A g).toArray 31)) := hw1
  have r0 := cfRange g0
  obtain ⟨q1, q2, q3, q4, q5⟩ := isE_ok hE
  have h1 : isC g.n a = true := by simp [isC]; omega
  have h2 : isC g.n b = true := by simp [isC]; omega
  have hok : EOk ⟨a, b⟩ := ⟨(wf64 a).2 (by omega), (wf64 b).2 (by omega)⟩
  have hneb : (a != b) = true := by simp [q5]
  have hneb2 : (a == b) = false := by simp [q5]
  obtain ⟨LC, hLC⟩ : ∃ LC, LC = cfC A g := ⟨_, rfl⟩
  rw [← hLC] at HW hI l31 r0 ⊢
  rw [← hLC] at g0
  have hI1 := hI w1 a
  have hI2 := fun w => hI w b
  rw [h1] at hI1
  rw [h2] at hI2
  have HM : Hid (EM w M cnt f) := hM
  clear hw1 hI hLC g0 h1 h2 hE q1 q2 q3 q4 hM
  go_enter Try.func42, Try.ntmps42
  go_upto_region 1 with (refine wpList_box_run rfl 31 (.tmp 1) rfl LC.toArray rfl ?_; simp only [Act.put, List.setIfInBounds_toArray, List.set_cons_zero, List.set_cons_succ])
  rw [← HW.out]
  go_wp2_with (first | (refine wpList_load_mid rfl 31 (.tmp 5) rfl w.heap.size 0 rfl LC _ r0 u31 rfl l31 ?_; simp only [Act.put, List.setIfInBounds_toArray, List.set_cons_zero, List.set_cons_succ]) | fail)
  go_at_call 21
  refine hI1.mono ?_
  rintro e w2 ⟨rfl, k2⟩
  have r2 := range_kp r0 k2
  have hI3 := hI2 w2
  clear hI1 hI2
  go_wp2_with (first | (refine gload_mid (by kernel_rfl) 31 (.tmp 5) rfl w.heap.size 0 rfl LC _ r2 u31 rfl l31 ?_; simp only [Act.put, List.setIfInBounds_toArray, List.set_cons_zero, List.set_cons_succ]) | fail)
  go_at_call 21
  refine hI3.mono ?_
  rintro e w3 ⟨rfl, k3⟩
  clear hI3
  have HM3 := (HM.out.kept k0 (fun e => e)).kept k2 (fun e => e) |>.kept k3 (fun e => e)
  obtain ⟨w4, hrun, hM4, hg4⟩ := HM3.store ⟨a, b⟩ hok hcnt
  have c4 : Chg w w4 (fun k => k = M) := Chg.grown (Kp.any (Kp.trans (Kp.trans k0 k2) k3)) hg4 (fun k hk => by cases hk; exact .inl rfl)
  unfold eV at hrun
  have HE : Hid (EM w4 M (cnt + 1) (fun x => f x || decide (x = ⟨a, b⟩)) ∧ Chg w w4 (fun k => k = M)) := ⟨hM4, c4⟩
  clear HM3 hM4 hg4 c4 HM
  go_wp2_with fail
  go_end0
  exact ⟨rfl, HE.out⟩
end Go.Proofs.Ythgpcmickgcdhaa
