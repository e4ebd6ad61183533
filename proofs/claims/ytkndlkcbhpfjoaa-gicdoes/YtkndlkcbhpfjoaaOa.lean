import Derived.Test.YtkndlkcbhpfjoaaNz
namespace Go.Proofs.Ytkndlkcbhpfjoaa
open Go.ChangeShapes Go.WideShapes Go.ChangeAt Go.RowKit Go.Shelf
set_option linter.unusedVariables false
set_option maxHeartbeats 8000000 in
set_option maxRecDepth 10000 in
theorem step_4 (w : World) (q B F R P M : Nat) (s : GS) (h : IsP w q B F R P M s) (o : Ov) (ho : o.ok) (hk : o.kind = 4) :
    Calls Try.prog 25 #[.pointer (some ⟨q, 0, none⟩), .agg (ocs o).toArray] w fun e w' => StE w q B F R P M e w' := by
  obtain ⟨hI, hkd⟩ := step_begin w q B F R P M s h o
  rw [hk] at hkd
  obtain ⟨w1, hw1⟩ : ∃ w1, w1 = w.alloc (.cells (ocs o).toArray 40) := ⟨_, rfl⟩
  obtain ⟨b, hb⟩ : ∃ b, b = w.heap.size := ⟨_, rfl⟩
  rw [← hw1, ← hb] at hI hkd
  have hso := ho.set
  obtain ⟨a1, a2, a3, a4, a5⟩ := hI.x
  have hT := told_any w1 q B F R P M s hI.p o.cell
  generalize (ocs o).toArray = C at *
  have HI : Hid (StI w w1 q B F R P M b o s) := hI
  go_enter Try.func25, Try.ntmps25
  go_upto_region 1 with fail
  rw [← hw1, ← hb]
  clear hw1 hb hI
  go_wp2_with fail
  go_at_call 27
  refine hT.mono ?_
  rintro e wz ⟨rfl, kz⟩
  clear hT
  go_wp2
  go_ret
  exact ⟨rfl, _, HI.out.p.kp kz, Chg.trans HI.out.c kz (fun _ _ e => e.elim)⟩
set_option maxHeartbeats 8000000 in
set_option maxRecDepth 10000 in
theorem step_6 (w : World) (q B F R P M : Nat) (s : GS) (h : IsP w q B F R P M s) (o : Ov) (ho : o.ok) (hk : o.kind = 6) :
    Calls Try.prog 25 #[.pointer (some ⟨q, 0, none⟩), .agg (ocs o).toArray] w fun e w' => StE w q B F R P M e w' := by
  obtain ⟨hI, hkd⟩ := step_begin w q B F R P M s h o
  rw [hk] at hkd
  obtain ⟨w1, hw1⟩ : ∃ w1, w1 = w.alloc (.cells (ocs o).toArray 40) := ⟨_, rfl⟩
  obtain ⟨b, hb⟩ : ∃ b, b = w.heap.size := ⟨_, rfl⟩
  rw [← hw1, ← hb] at hI hkd
  have hso := ho.set
  obtain ⟨a1, a2, a3, a4, a5⟩ := hI.x
  have hT := plines_any w1 q B F R P M s hI.p o.cell o.line
  generalize (ocs o).toArray = C at *
  have HI : Hid (StI w w1 q B F R P M b o s) := hI
  go_enter Try.func25, Try.ntmps25
  go_upto_region 1 with fail
  rw [← hw1, ← hb]
  clear hw1 hb hI
  go_wp2_with fail
  go_at_call 28
  refine hT.mono ?_
  rintro e wz ⟨rfl, kz⟩
  clear hT
  go_wp2
  go_ret
  exact ⟨rfl, _, HI.out.p.kp kz, Chg.trans HI.out.c kz (fun _ _ e => e.elim)⟩
set_option maxHeartbeats 8000000 in
set_option maxRecDepth 10000 in
theorem step_8 (w : World) (q B F R P M : Nat) (s : GS) (h : IsP w q B F R P M s) (o : Ov) (ho : o.ok) (hk : o.kind = 8) :
    Calls Try.prog 25 #[.pointer (some ⟨q, 0, none⟩), .agg (ocs o).toArray] w fun e w' => StE w q B F R P M e w' := by
  obtain ⟨hI, hkd⟩ := step_begin w q B F R P M s h o
  rw [hk] at hkd
  obtain ⟨w1, hw1⟩ : ∃ w1, w1 = w.alloc (.cells (ocs o).toArray 40) := ⟨_, rfl⟩
  obtain ⟨b, hb⟩ : ∃ b, b = w.heap.size := ⟨_, rfl⟩
  rw [← hw1, ← hb] at hI hkd
  have hso := ho.set
  obtain ⟨a1, a2, a3, a4, a5⟩ := hI.x
  have hT := pstate_any w1 q B F R P M s hI.p
  generalize (ocs o).toArray = C at *
  have HI : Hid (StI w w1 q B F R P M b o s) := hI
  go_enter Try.func25, Try.ntmps25
  go_upto_region 1 with fail
  rw [← hw1, ← hb]
  clear hw1 hb hI
  go_wp2_with fail
  go_at_call 29
  refine hT.mono ?_
  rintro e wz ⟨rfl, kz⟩
  clear hT
  go_wp2
  go_ret
  exact ⟨rfl, _, HI.out.p.kp kz, Chg.trans HI.out.c kz (fun _ _ e => e.elim)⟩
set_option maxHeartbeats 8000000 in
set_option maxRecDepth 10000 in
theorem step_12 (w : World) (q B F R P M : Nat) (s : GS) (h : IsP w q B F R P M s) (o : Ov) (ho : o.ok) (hk : o.kind = 12) :
    Calls Try.prog 25 #[.pointer (some ⟨q, 0, none⟩), .agg (ocs o).toArray] w fun e w' => StE w q B F R P M e w' := by
  obtain ⟨hI, hkd⟩ := step_begin w q B F R P M s h o
  rw [hk] at hkd
  obtain ⟨w1, hw1⟩ : ∃ w1, w1 = w.alloc (.cells (ocs o).toArray 40) := ⟨_, rfl⟩
  obtain ⟨b, hb⟩ : ∃ b, b = w.heap.size := ⟨_, rfl⟩
  rw [← hw1, ← hb] at hI hkd
  have hso := ho.set
  obtain ⟨a1, a2, a3, a4, a5⟩ := hI.x
  have hT := many_any w1 q B F R P M s hI.p o.line o.cell (o.set % 1501) (by omega)
  generalize (ocs o).toArray = C at *
  have HI : Hid (StI w w1 q B F R P M b o s) := hI
  go_enter Try.func25, Try.ntmps25
  go_upto_region 1 with fail
  rw [← hw1, ← hb]
  clear hw1 hb hI
  go_wp2_with fail
  go_at_call 46
  refine hT.mono ?_
  rintro e wz ⟨rfl, t, it, ct⟩
  clear hT
  go_wp2
  go_ret
  exact ⟨rfl, t, it, Chg.trans HI.out.c ct (fun _ _ e => e)⟩
set_option maxHeartbeats 8000000 in
set_option maxRecDepth 10000 in
theorem step_9 (w : World) (q B F R P M : Nat) (s : GS) (h : IsP w q B F R P M s) (o : Ov) (ho : o.ok) (hk : o.kind = 9) :
    Calls Try.prog 25 #[.pointer (some ⟨q, 0, none⟩), .agg (ocs o).toArray] w fun e w' => StE w q B F R P M e w' := by
  obtain ⟨hI, hkd⟩ := step_begin w q B F R P M s h o
  rw [hk] at hkd
  obtain ⟨w1, hw1⟩ : ∃ w1, w1 = w.alloc (.cells (ocs o).toArray 40) := ⟨_, rfl⟩
  obtain ⟨b, hb⟩ : ∃ b, b = w.heap.size := ⟨_, rfl⟩
  rw [← hw1, ← hb] at hI hkd
  have hso := ho.set
  obtain ⟨a1, a2, a3, a4, a5⟩ := hI.x
  have hrg : w1.rangeAt b 4 (zcs o.sr o.sp o.sm) := by
    have g := heap_alloc_new w (.cells (ocs o).toArray 40)
    rw [← hw1, ← hb] at g
    intro j u hu
    rw [(cells_at g (4 + j)).1, List.getElem?_toArray]
    show (ocs o)[4 + j]? = some u
    have : (ocs o)[4 + j]? = (scs o)[j]? := by unfold ocs; rw [Nat.add_comm]; rfl
    rw [this]; exact hu
  have hsz := zcs_38 o.sr o.sp o.sm
  have hT := pload_any w1 q B F R P M s hI.p o.sr o.sp o.sm ho.sp ho.sm
  generalize zcs o.sr o.sp o.sm = Z at *
  generalize (ocs o).toArray = C at *
  have HI : Hid (StI w w1 q B F R P M b o s) := hI
  go_enter Try.func25, Try.ntmps25
  go_upto_region 1 with fail
  rw [← hw1, ← hb]
  clear hw1 hb hI
  go_wp2_with (refine wpList_load_mid rfl 38 (.tmp 166) rfl b 4 rfl Z _ hrg Try.underlying38 rfl hsz ?_)
  go_at_call 45
  refine hT.mono ?_
  rintro e wz ⟨rfl, t, it, ct⟩
  clear hT hrg
  go_wp2
  go_ret
  exact ⟨rfl, t, it, Chg.trans HI.out.c ct (fun _ _ e => e)⟩
set_option maxHeartbeats 8000000 in
set_option maxRecDepth 10000 in
theorem step_0 (w : World) (q B F R P M : Nat) (s : GS) (h : IsP w q B F R P M s) (o : Ov) (ho : o.ok) (hk : ∀ k : Int, k = 1 ∨ k = 2 ∨ k = 3 ∨ k = 4 ∨ k = 5 ∨ k = 6 ∨ k = 7 ∨ k = 8 ∨ k = 9 ∨ k = 10 ∨ k = 12 → o.kind ≠ k) :
    Calls Try.prog 25 #[.pointer (some ⟨q, 0, none⟩), .agg (ocs o).toArray] w fun e w' => StE w q B F R P M e w' := by
  obtain ⟨hI, hkd⟩ := step_begin w q B F R P M s h o
  obtain ⟨w1, hw1⟩ : ∃ w1, w1 = w.alloc (.cells (ocs o).toArray 40) := ⟨_, rfl⟩
  obtain ⟨b, hb⟩ : ∃ b, b = w.heap.size := ⟨_, rfl⟩
  rw [← hw1, ← hb] at hI hkd
  have hso := ho.set
  have n1 : (o.kind == 1) = false := by rw [beq_eq_false_iff_ne]; exact hk _ (by simp)
  have n2 : (o.kind == 2) = false := by rw [beq_eq_false_iff_ne]; exact hk _ (by simp)
  have n3 : (o.kind == 3) = false := by rw [beq_eq_false_iff_ne]; exact hk _ (by simp)
  have n4 : (o.kind == 4) = false := by rw [beq_eq_false_iff_ne]; exact hk _ (by simp)
  have n5 : (o.kind == 5) = false := by rw [beq_eq_false_iff_ne]; exact hk _ (by simp)
  have n6 : (o.kind == 6) = false := by rw [beq_eq_false_iff_ne]; exact hk _ (by simp)
  have n7 : (o.kind == 7) = false := by rw [beq_eq_false_iff_ne]; exact hk _ (by simp)
  have n8 : (o.kind == 8) = false := by rw [beq_eq_false_iff_ne]; exact hk _ (by simp)
  have n9 : (o.kind == 9) = false := by rw [beq_eq_false_iff_ne]; exact hk _ (by simp)
  have n10 : (o.kind == 10) = false := by rw [beq_eq_false_iff_ne]; exact hk _ (by simp)
  have n12 : (o.kind == 12) = false := by rw [beq_eq_false_iff_ne]; exact hk _ (by simp)
  clear hk
  generalize o.kind = kd at *
  generalize (ocs o).toArray = C at *
  have HI : Hid (StI w w1 q B F R P M b o s) := hI
  go_enter Try.func25, Try.ntmps25
  go_upto_region 1 with fail
  rw [← hw1, ← hb]
  clear hw1 hb hI
  go_wp2
  go_ret
  exact ⟨rfl, _, HI.out.p, HI.out.c⟩
set_option maxHeartbeats 8000000 in
set_option maxRecDepth 10000 in
theorem step_10 (w : World) (q B F R P M : Nat) (s : GS) (h : IsP w q B F R P M s) (o : Ov) (ho : o.ok) (hk : o.kind = 10) :
    Calls Try.prog 25 #[.pointer (some ⟨q, 0, none⟩), .agg (ocs o).toArray] w fun e w' => StE w q B F R P M e w' := by
  obtain ⟨hI, hkd⟩ := step_begin w q B F R P M s h o
  rw [hk] at hkd
  obtain ⟨w1, hw1⟩ : ∃ w1, w1 = w.alloc (.cells (ocs o).toArray 40) := ⟨_, rfl⟩
  obtain ⟨b, hb⟩ : ∃ b, b = w.heap.size := ⟨_, rfl⟩
  rw [← hw1, ← hb] at hI hkd
  have hso := ho.set
  obtain ⟨a1, a2, a3, a4, a5⟩ := hI.x
  have hS := state_any w1 B s hI.p.g
  have HI : Hid (StI w w1 q B F R P M b o s) := hI
  generalize (ocs o).toArray = C at *
  go_enter Try.func25, Try.ntmps25
  go_upto_region 1 with fail
  rw [← hw1, ← hb]
  clear hw1 hb hI
  go_wp2_with fail
  go_at_call 17
  refine hS.mono ?_
  rintro e w5 ⟨rfl, k5⟩
  clear hS a1 a2 a3 a4 a5 hkd
  obtain ⟨ZZ, hZ⟩ : ∃ ZZ, ZZ = (gcs GS.zero).toArray := ⟨_, rfl⟩
  have hz := fun w => zero38 w
  rw [← hZ] at hz
  have g3 : (w5.alloc (.cells ZZ 38)).heap[w5.heap.size]? = some (.cells ZZ 38 (0, 0)) := heap_alloc_new w5 _
  have hst := store38 (w5.alloc (.cells ZZ 38)) w5.heap.size ZZ (gcs s).toArray 38 g3 (by rw [hZ]; exact gcs_size _) (gcs_size s) (by simpa using gcs_one s)
  obtain ⟨w6, hw6⟩ : ∃ w6, w6 = (w5.alloc (.cells ZZ 38)).setRow w5.heap.size (gcs s).toArray := ⟨_, rfl⟩
  have g6 : w6.heap[w5.heap.size]? = some (.cells (gcs s).toArray 38 (0, 0)) := by rw [hw6]; exact setRow_heap _ w5.heap.size ZZ _ 38 (0, 0) g3
  have k6 : Kp w1 w6 := by rw [hw6]; exact Kp.trans k5 (Chg.setRow ((Chg.refl w5 _).alloc _) (.inr (Nat.le_refl _)) _)
  rw [← hw6] at hst
  obtain ⟨b6, hb6⟩ : ∃ b6, b6 = w5.heap.size := ⟨_, rfl⟩
  rw [← hb6] at g6
  have hi6 := HI.out.kp k6
  have ez : zcs (fun i => ((s.rt i : Nat) : Int)) (sw s.pe) (sw s.ma) = gcs s := rfl
  have hT := pload_any w6 q B F R P M s hi6.p (fun i => ((s.rt i : Nat) : Int)) (sw s.pe) (sw s.ma) (sw_lt _) (sw_lt _)
  rw [ez] at hT
  have hsz := size38 s
  have hrg : w6.rangeAt b6 0 (gcs s) := fun j u hu => by rw [Nat.zero_add, (cells_at g6 j).1, List.getElem?_toArray]; exact hu
  have H6 : Hid (StI w w6 q B F R P M b o s) := hi6
  clear hi6 g6 k6 g3 hZ k5 ez
  generalize gcs s = L at *
  go_upto_region 29 with (first | (refine wpList_alloc_zero _ rfl 38 ZZ rfl (hz _) ?_; simp only [Act.put, List.setIfInBounds_toArray, List.set_cons_zero, List.set_cons_succ]) | (refine wpList_store_row rfl 38 (.tmp 13) (.tmp 175) rfl w5.heap.size 0 L.toArray rfl rfl _ hst ?_; simp only [Act.put]))
  rw [← hb6]
  clear hst hz hb6 hw6
  go_wp2_with (refine wpList_load_mid rfl 38 (.tmp 13) rfl b6 0 rfl L _ hrg Try.underlying38 rfl hsz ?_)
  go_at_call 45
  refine hT.mono ?_
  rintro e wz ⟨rfl, t, it, ct⟩
  clear hT hrg
  go_wp2
  go_ret
  exact ⟨rfl, t, it, Chg.trans H6.out.c ct (fun _ _ e => e)⟩
theorem step_any (w : World) (q B F R P M : Nat) (s : GS) (h : IsP w q B F R P M s) (o : Ov) (ho : o.ok) :
    Calls Try.prog 25 #[.pointer (some ⟨q, 0, none⟩), .agg (ocs o).toArray] w fun e w' => StE w q B F R P M e w' := by
  by_cases e1 : o.kind = 1
  · exact step_1 w q B F R P M s h o ho e1
  by_cases e2 : o.kind = 2
  · exact step_2 w q B F R P M s h o ho e2
  by_cases e3 : o.kind = 3
  · exact step_3 w q B F R P M s h o ho e3
  by_cases e4 : o.kind = 4
  · exact step_4 w q B F R P M s h o ho e4
  by_cases e5 : o.kind = 5
  · exact step_5 w q B F R P M s h o ho e5
  by_cases e6 : o.kind = 6
  · exact step_6 w q B F R P M s h o ho e6
  by_cases e7 : o.kind = 7
  · exact step_7 w q B F R P M s h o ho e7
  by_cases e8 : o.kind = 8
  · exact step_8 w q B F R P M s h o ho e8
  by_cases e9 : o.kind = 9
  · exact step_9 w q B F R P M s h o ho e9
  by_cases e10 : o.kind = 10
  · exact step_10 w q B F R P M s h o ho e10
  by_cases e12 : o.kind = 12
  · exact step_12 w q B F R P M s h o ho e12
  exact step_0 w q B F R P M s h o ho (fun k hk e => by omega)
end Go.Proofs.Ytkndlkcbhpfjoaa
