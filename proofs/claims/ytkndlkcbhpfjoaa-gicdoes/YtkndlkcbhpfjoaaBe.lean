import Derived.Test.YtkndlkcbhpfjoaaBd
namespace Go.Proofs.Ytkndlkcbhpfjoaa
open Go.ChangeShapes Go.WideShapes Go.ChangeAt Go.RowKit
set_option linter.unusedVariables false

theorem build67 (w : World) : (Instr.build 67 #[]).run Try.prog w = .ok (.agg (gcs GS.zero).toArray) w := by
  have hz : (Try.prog.info? 67).bind (·.zero) = some (.agg (gcs GS.zero).toArray) := by kernel_rfl
  cases hq : Try.prog.info? 67 with
  | none => rw [hq] at hz; cases hz
  | some i =>
    rw [hq] at hz
    have hz2 : i.zero = some (.agg (gcs GS.zero).toArray) := hz
    simp [Instr.build, zeroValue, typeInfo, hq, hz2, go_sem]
theorem gnew_any (w : World) : Calls Try.prog 23 #[] w fun e w' => e = .returned (.pointer (some ⟨w.heap.size, 0, none⟩)) ∧ IsG w' w.heap.size GS.zero ∧ Kp w w' := by
  have hb := fun w => build67 w
  obtain ⟨Z, hZ⟩ : ∃ Z, Z = (gcs GS.zero).toArray := ⟨_, rfl⟩
  have HN : Hid (IsG (w.alloc (.cells Z 67)) w.heap.size GS.zero) := by unfold Hid IsG; rw [hZ]; exact heap_alloc_new w _
  rw [← hZ] at hb
  clear hZ
  go_enter Try.func23, Try.ntmps23
  go_wp2_with (refine wpList_build_run rfl 67 #[] rfl #[] (by simp) (.agg Z) (hb _) ?_; simp only [Act.put, List.setIfInBounds_toArray, List.set_cons_zero, List.set_cons_succ]; refine wpList_box_run rfl 67 (.tmp 1) rfl Z rfl ?_; simp only [Act.put, List.setIfInBounds_toArray, List.set_cons_zero, List.set_cons_succ])
  go_ret
  exact ⟨rfl, HN.out, (Chg.refl _ _).alloc _⟩
theorem route_line (w : World) (B : Nat) (n c : Int) (hn : ¬ (0 ≤ n ∧ n < 32)) :
    Calls Try.prog 21 #[.pointer (some ⟨B, 0, none⟩), .int .i64 n, .int .i64 c] w fun e w' => e = .returned (.int .i64 90) ∧ w' = w := by
  have hL := isLine_any w n
  have e0 : (decide (0 ≤ n) && decide (n < 32)) = false := by
    by_cases h1 : 0 ≤ n
    · by_cases h2 : n < 32
      · exact absurd ⟨h1, h2⟩ hn
      · simp [h2]
    · simp [h1]
  rw [e0] at hL
  clear hn e0
  go_enter Try.func21, Try.ntmps21
  go_wp2_with fail
  go_at_call 30
  refine hL.mono ?_
  rintro e w1 ⟨rfl, rfl⟩
  clear hL
  go_wp2
  go_ret
  exact ⟨rfl, rfl⟩
theorem route_cell (w : World) (B : Nat) (n c : Int) (hn : 0 ≤ n ∧ n < 32) (hc : ¬ (0 ≤ c ∧ c ≤ 8)) :
    Calls Try.prog 21 #[.pointer (some ⟨B, 0, none⟩), .int .i64 n, .int .i64 c] w fun e w' => e = .returned (.int .i64 91) ∧ w' = w := by
  have hL := isLine_any w n
  have hG := isGoal_any w c
  have e1 : (decide (0 ≤ n) && decide (n < 32)) = true := by simp [hn]
  have e0 : (decide (0 ≤ c) && decide (c ≤ 8)) = false := by
    by_cases h1 : 0 ≤ c
    · by_cases h2 : c ≤ 8
      · exact absurd ⟨h1, h2⟩ hc
      · simp [h2]
    · simp [h1]
  rw [e1] at hL
  rw [e0] at hG
  clear hn e0 hc e1
  go_enter Try.func21, Try.ntmps21
  go_wp2_with fail
  go_at_call 30
  refine hL.mono ?_
  rintro e w1 ⟨rfl, rfl⟩
  clear hL
  go_wp2_with fail
  go_at_call 36
  refine hG.mono ?_
  rintro e w1 ⟨rfl, rfl⟩
  clear hG
  go_wp2
  go_ret
  exact ⟨rfl, rfl⟩
set_option maxHeartbeats 2000000 in
theorem route_ok (w : World) (B : Nat) (s : GS) (h : IsG w B s) (l : Nat) (hl : l < 32) (c : Nat) (hc : c ≤ 8) :
    Calls Try.prog 21 #[.pointer (some ⟨B, 0, none⟩), .int .i64 (l : Nat), .int .i64 (c : Nat)] w fun e w' => e = .returned (.int .i64 0) ∧ IsG w' B (s.route l c) ∧ Chg w w' (fun k => k = B) := by
  have hL := isLine_any w (l : Int)
  have hG := isGoal_any w (c : Int)
  have e0 : (decide (0 ≤ (l : Int)) && decide ((l : Int) < 32)) = true := by simp; omega
  have e1 : (decide (0 ≤ (c : Int)) && decide ((c : Int) ≤ 8)) = true := by simp; omega
  rw [e0] at hL
  rw [e1] at hG
  have cr := h.rt l hl
  have fr := h.fr l
  have hlz : (l : Int) < 32 := by omega
  by_cases hr : s.rt l = c
  · have hrz : (s.rt l : Int) = (c : Int) := by omega
    have HN : Hid (IsG w B (s.route l c)) := by unfold GS.route; rw [if_pos hr]; exact h
    clear h hr hc hl
    go_enter Try.func21, Try.ntmps21
    go_wp2_with fail
    go_at_call 30
    refine hL.mono ?_
    rintro e w1 ⟨rfl, rfl⟩
    clear hL
    go_wp2_with fail
    go_at_call 36
    refine hG.mono ?_
    rintro e w1 ⟨rfl, rfl⟩
    clear hG
    go_wp2
    go_ret
    exact ⟨rfl, HN.out, Chg.refl _ _⟩
  · have hrz : ¬ (s.rt l : Int) = (c : Int) := by omega
    obtain ⟨w1, hw1⟩ : ∃ w1, w1 = w.setCell ⟨B, l, none⟩ (.int .i64 (c : Nat)) := ⟨_, rfl⟩
    have k1 : Chg w w1 (fun k => k = B) := by rw [hw1]; exact Chg.setCell (S := fun k => k = B) (Chg.refl _ _) (.inl rfl) _
    have i1 : IsG w1 B ⟨fun i => if i = l then c else s.rt i, s.pe, s.ma⟩ := by rw [hw1]; exact h.setRt l hl c
    obtain ⟨w2, hw2⟩ : ∃ w2, w2 = w1.drew.setCell ⟨B, 32, none⟩ (.int .u32 (sw (fun i => s.pe i && !(i == l)) : Nat)) := ⟨_, rfl⟩
    have j1 := i1.kp (Chg.refl w1 _).drew
    have i2 : IsG w2 B ⟨fun i => if i = l then c else s.rt i, fun i => s.pe i && !(i == l), s.ma⟩ := by rw [hw2]; exact j1.setPe _
    have k2 : Chg w w2 (fun k => k = B) := by rw [hw2]; exact Chg.setCell (S := fun k => k = B) k1.drew (.inl rfl) _
    have j2 := i2.kp (Chg.refl w2 _).drew
    have HN : Hid (IsG (w2.drew.setCell ⟨B, 33, none⟩ (.int .u32 (sw (fun i => s.ma i && !(i == l)) : Nat))) B (s.route l c) ∧ Chg w (w2.drew.setCell ⟨B, 33, none⟩ (.int .u32 (sw (fun i => s.ma i && !(i == l)) : Nat))) (fun k => k = B)) :=
      ⟨by unfold GS.route; rw [if_neg hr]; exact j2.setMa _, Chg.setCell (S := fun k => k = B) k2.drew (.inl rfl) _⟩
    have hO1 : Calls Try.prog 31 #[.int .i64 (l : Nat)] w1.drew fun e w' => e = .returned (.int .u32 (sw (fun i => i == l) : Nat)) ∧ w' = w1.drew := only_any w1.drew l hl
    have hO2 : Calls Try.prog 31 #[.int .i64 (l : Nat)] w2.drew fun e w' => e = .returned (.int .u32 (sw (fun i => i == l) : Nat)) ∧ w' = w2.drew := only_any w2.drew l hl
    have p1 : w1.drew.cell? ⟨B, 32, none⟩ = some (.int .u32 (sw s.pe : Nat)) := j1.pe
    have p1' : w1.cell? ⟨B, 32, none⟩ = some (.int .u32 (sw s.pe : Nat)) := i1.pe
    have f1 := j1.fr 32
    have f1' := i1.fr 32
    have p2 : w2.drew.cell? ⟨B, 33, none⟩ = some (.int .u32 (sw s.ma : Nat)) := j2.ma
    have p2' : w2.cell? ⟨B, 33, none⟩ = some (.int .u32 (sw s.ma : Nat)) := i2.ma
    have f2 := j2.fr 33
    have f2' := i2.fr 33
    have ea := sw_andNot s.pe (fun i => i == l)
    have eb := sw_andNot s.ma (fun i => i == l)
    have HW1 : Hid (w1 = w.setCell ⟨B, l, none⟩ (.int .i64 (c : Nat))) := hw1
    have HW2 : Hid (w2 = w1.drew.setCell ⟨B, 32, none⟩ (.int .u32 (sw (fun i => s.pe i && !(i == l)) : Nat))) := hw2
    clear h hr hc hl hw1 hw2 k1 k2 i1 i2 j1 j2
    go_enter Try.func21, Try.ntmps21
    go_wp2_with fail
    go_at_call 30
    refine hL.mono ?_
    rintro e wz ⟨rfl, hwz⟩
    rw [hwz]
    clear hL hwz
    go_wp2_with fail
    go_at_call 36
    refine hG.mono ?_
    rintro e wz ⟨rfl, hwz⟩
    rw [hwz]
    clear hG hwz
    go_upto_region 7 with fail
    rw [← HW1.out]
    go_region_with (go_at_call 31; with_reducible refine hO1.mono ?_; rintro e wz ⟨rfl, hwz⟩; rw [hwz]; clear hwz)
    all_goals (try rw [show (w1.setCell ⟨B, 32, none⟩ (.int .u32 (sw (fun i => s.pe i && !(i == l)) : Nat))).drew = w2 from HW2.out.symm])
    all_goals (try rw [← HW2.out])
    all_goals go_upto_region 8 with fail
    all_goals go_region_with (go_at_call 31; with_reducible refine hO2.mono ?_; rintro e wz ⟨rfl, hwz⟩; rw [hwz]; clear hwz)
    all_goals (try go_wp2)
    all_goals go_ret
    all_goals exact ⟨rfl, HN.out⟩
end Go.Proofs.Ytkndlkcbhpfjoaa
