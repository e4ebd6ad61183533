import Derived.Test.YtgofjmhdgmfgfaaGreatDoorRa
namespace Go.Proofs.YtgofjmhdgmfgfaaGreatDoor
open Go.ChangeShapes Go.WideShapes Go.ChangeAt Go.RowKit
set_option linter.unusedVariables false

set_option maxRecDepth 100000 in
set_option maxHeartbeats 8000000 in
theorem of_no (w : World) (op : Int) (h : op < 1 ∨ 48 < op) : Calls Tryz.prog 55 #[.int .i64 op] w fun e w' => e = .returned (.tuple #[.agg #[.string ⟨#[]⟩, .int .i64 0, .int .u8 0, .int .u8 0], .bool false]) ∧ Kp w w' := by
  by_cases h1 : op < 1
  · go_enter Tryz.func55, Tryz.ntmps55
    go_wp2
    refine bodyPost_ret (v := .tuple #[.agg #[.string ⟨#[]⟩, .int .i64 0, .int .u8 0, .int .u8 0], .bool false]) (by simp [results, Tryz.results55, go_sem]) rfl ⟨rfl, by repeat (first | exact Chg.refl _ _ | apply Chg.drew | apply Chg.alloc)⟩
  · have h2 : 48 < op := by omega
    go_enter Tryz.func55, Tryz.ntmps55
    go_wp2
    refine bodyPost_ret (v := .tuple #[.agg #[.string ⟨#[]⟩, .int .i64 0, .int .u8 0, .int .u8 0], .bool false]) (by simp [results, Tryz.results55, go_sem]) rfl ⟨rfl, by repeat (first | exact Chg.refl _ _ | apply Chg.drew | apply Chg.alloc)⟩
def imC (op : Int) : Nat := imTab.getD op.toNat 0
def shC (op : Int) : Nat := shTab.getD op.toNat 0
theorem imsh_no {op : Int} (h : isO op = false) : imC op = 0 ∧ shC op = 0 := by
  have h' : ¬ (0 < op ∧ op < 49) := fun x => by rw [(isO_iff op).2 x] at h; cases h
  have : op.toNat = 0 ∨ 49 ≤ op.toNat := by omega
  rcases this with e | e
  · simp [imC, shC, e, imTab, shTab]
  · exact ⟨getD_none _ _ _ (by simpa [imTab] using e), getD_none _ _ _ (by simpa [shTab] using e)⟩
theorem of_any (w : World) (op : Int) : Calls Tryz.prog 55 #[.int .i64 op] w fun e w' => e = .returned (.tuple #[.agg #[.string (sb (nm op)), .int .i64 (fo op : Nat), .int .u8 (imC op : Nat), .int .u8 (shC op : Nat)], .bool (isO op)]) ∧ Kp w w' := by
  cases h : isO op
  · obtain ⟨e1, e2, e3⟩ := fo_no h
    obtain ⟨e4, e5⟩ := imsh_no h
    rw [e1, e3, e4, e5]
    have h' : ¬ (0 < op ∧ op < 49) := fun x => by rw [(isO_iff op).2 x] at h; cases h
    exact of_no w op (by omega)
  · obtain ⟨o0, o1⟩ := (isO_iff op).1 h
    exact of_yes w op (by omega) (by omega) _ _ _ _ rfl ⟨rfl, rfl, rfl⟩

end Go.Proofs.YtgofjmhdgmfgfaaGreatDoor
namespace Go.Proofs.YtgofjmhdgmfgfaaGreatDoor
open Go.ChangeShapes Go.WideShapes Go.ChangeAt Go.RowKit
set_option linter.unusedVariables false

theorem pow40 (j : Nat) (h : j ≤ 40) : 2 ^ j ≤ 1099511627776 := by
  have := Nat.pow_le_pow_right (n := 2) (by decide) h
  have e : 2 ^ 40 = 1099511627776 := by decide
  omega
set_option maxRecDepth 100000 in
theorem power_any (w : World) (n : Nat) (hn : n ≤ 40) (r : Int) (hr : r = ((2 ^ n : Nat) : Int)) :
    Calls Tryz.prog 54 #[.int .i64 n] w fun e w' => e = .returned (.int .i64 r) ∧ w' = w := by
  have HR : Hid (r = ((2 ^ n : Nat) : Int)) := hr
  clear hr
  go_enter Tryz.func54, Tryz.ntmps54
  go_wp2
  go_loopw [3, 4] (fun s3 s4 wr => ∃ (j : Nat) (p : Int), s4 = .int .i64 j ∧ s3 = .int .i64 p ∧ j ≤ n ∧ Hid (p = ((2 ^ j : Nat) : Int)) ∧ wr = w) (fun _ s4 _ => n - (intOf s4).toNat)
  case atStart => exact ⟨0, 1, rfl, rfl, by omega, rfl, rfl⟩
  case round =>
    obtain ⟨j, p, rfl, rfl, hj, HP, rfl⟩ := hrel
    by_cases hlt : j < n
    · have hjz : (j : Int) < (n : Int) := by omega
      have hb := pow40 j (by omega)
      have h0 : 0 ≤ p := by rw [HP.out]; exact Int.natCast_nonneg _
      have h1 : p ≤ 1099511627776 := by rw [HP.out]; omega
      go_wp2
      refine ⟨⟨j + 1, 2 * p, by go_num, by go_num, by omega, ?_, by first | rfl | trivial⟩, by simp [intOf]; omega⟩
      have e := HP.out
      show 2 * p = ((2 ^ (j + 1) : Nat) : Int)
      rw [e, Nat.pow_succ, Int.natCast_mul]
      exact Int.mul_comm _ _
    · obtain rfl : j = n := by omega
      go_wp2
      go_ret
      exact ⟨ret_int (by rw [HP.out, HR.out]), rfl⟩
theorem fields_1 (w : World) : Calls Tryz.prog 56 #[.int .i64 1] w fun e w' => e = .returned (.tuple #[.string ⟨#[68, 65, 66]⟩, .int .i64 0]) ∧ w' = w := by
  go_enter Tryz.func56, Tryz.ntmps56
  go_wp2
  go_ret2
  exact ⟨rfl, rfl⟩
theorem fields_2 (w : World) : Calls Tryz.prog 56 #[.int .i64 2] w fun e w' => e = .returned (.tuple #[.string ⟨#[68, 65]⟩, .int .i64 18]) ∧ w' = w := by
  go_enter Tryz.func56, Tryz.ntmps56
  go_wp2
  go_ret2
  exact ⟨rfl, rfl⟩
theorem fields_3 (w : World) : Calls Tryz.prog 56 #[.int .i64 3] w fun e w' => e = .returned (.tuple #[.string ⟨#[65, 66]⟩, .int .i64 18]) ∧ w' = w := by
  go_enter Tryz.func56, Tryz.ntmps56
  go_wp2
  go_ret2
  exact ⟨rfl, rfl⟩
theorem fields_4 (w : World) : Calls Tryz.prog 56 #[.int .i64 4] w fun e w' => e = .returned (.tuple #[.string ⟨#[68]⟩, .int .i64 22]) ∧ w' = w := by
  go_enter Tryz.func56, Tryz.ntmps56
  go_wp2
  go_ret2
  exact ⟨rfl, rfl⟩
theorem fields_5 (w : World) : Calls Tryz.prog 56 #[.int .i64 5] w fun e w' => e = .returned (.tuple #[.string ⟨#[68]⟩, .int .i64 0]) ∧ w' = w := by
  go_enter Tryz.func56, Tryz.ntmps56
  go_wp2
  go_ret2
  exact ⟨rfl, rfl⟩
theorem fields_6 (w : World) : Calls Tryz.prog 56 #[.int .i64 6] w fun e w' => e = .returned (.tuple #[.string ⟨#[65]⟩, .int .i64 0]) ∧ w' = w := by
  go_enter Tryz.func56, Tryz.ntmps56
  go_wp2
  go_ret2
  exact ⟨rfl, rfl⟩
theorem fields_7 (w : World) : Calls Tryz.prog 56 #[.int .i64 7] w fun e w' => e = .returned (.tuple #[.string ⟨#[]⟩, .int .i64 26]) ∧ w' = w := by
  go_enter Tryz.func56, Tryz.ntmps56
  go_wp2
  go_ret2
  exact ⟨rfl, rfl⟩
theorem fields_8 (w : World) : Calls Tryz.prog 56 #[.int .i64 8] w fun e w' => e = .returned (.tuple #[.string ⟨#[]⟩, .int .i64 0]) ∧ w' = w := by
  go_enter Tryz.func56, Tryz.ntmps56
  go_wp2
  go_ret2
  exact ⟨rfl, rfl⟩
set_option maxRecDepth 100000 in
theorem takes_s18 (w : World) (v : Int) : Calls Tryz.prog 57 #[.int .u8 115, .int .i64 18, .int .i64 v] w fun e w' => e = .returned (.bool (decide (-131072 ≤ v) && decide (v ≤ 131071))) ∧ w' = w := by
  have hp : ∀ w, Calls Tryz.prog 54 #[.int .i64 17] w fun e w' => e = .returned (.int .i64 131072) ∧ w' = w := fun w => power_any w 17 (by decide) _ rfl
  by_cases h1 : -131072 ≤ v
  · go_enter Tryz.func57, Tryz.ntmps57
    go_wp2_with (go_at_call 54; refine (hp _).mono ?_; rintro e w1 ⟨rfl, rfl⟩)
    go_ret
    refine ⟨ret_bool ?_, rfl⟩
    rw [decide_eq_true h1, Bool.true_and]
    first | exact decide_eq_decide.2 (by omega) | (by_cases h2 : v ≤ 131071 <;> simp <;> omega)
  · go_enter Tryz.func57, Tryz.ntmps57
    go_wp2_with (go_at_call 54; refine (hp _).mono ?_; rintro e w1 ⟨rfl, rfl⟩)
    go_ret
    refine ⟨ret_bool ?_, rfl⟩
    rw [decide_eq_false (by omega), Bool.false_and]
set_option maxRecDepth 100000 in
theorem takes_s22 (w : World) (v : Int) : Calls Tryz.prog 57 #[.int .u8 115, .int .i64 22, .int .i64 v] w fun e w' => e = .returned (.bool (decide (-2097152 ≤ v) && decide (v ≤ 2097151))) ∧ w' = w := by
  have hp : ∀ w, Calls Tryz.prog 54 #[.int .i64 21] w fun e w' => e = .returned (.int .i64 2097152) ∧ w' = w := fun w => power_any w 21 (by decide) _ rfl
  by_cases h1 : -2097152 ≤ v
  · go_enter Tryz.func57, Tryz.ntmps57
    go_wp2_with (go_at_call 54; refine (hp _).mono ?_; rintro e w1 ⟨rfl, rfl⟩)
    go_ret
    refine ⟨ret_bool ?_, rfl⟩
    rw [decide_eq_true h1, Bool.true_and]
    first | exact decide_eq_decide.2 (by omega) | (by_cases h2 : v ≤ 2097151 <;> simp <;> omega)
  · go_enter Tryz.func57, Tryz.ntmps57
    go_wp2_with (go_at_call 54; refine (hp _).mono ?_; rintro e w1 ⟨rfl, rfl⟩)
    go_ret
    refine ⟨ret_bool ?_, rfl⟩
    rw [decide_eq_false (by omega), Bool.false_and]
set_option maxRecDepth 100000 in
theorem takes_u (w : World) (b v : Int) : Calls Tryz.prog 57 #[.int .u8 117, .int .i64 b, .int .i64 v] w fun e w' => e = .returned (.bool (decide (0 ≤ v) && decide (v ≤ 262143))) ∧ w' = w := by
  have hp : ∀ w, Calls Tryz.prog 54 #[.int .i64 18] w fun e w' => e = .returned (.int .i64 262144) ∧ w' = w := fun w => power_any w 18 (by decide) _ rfl
  by_cases h1 : 0 ≤ v
  · go_enter Tryz.func57, Tryz.ntmps57
    go_wp2_with (go_at_call 54; refine (hp _).mono ?_; rintro e w1 ⟨rfl, rfl⟩)
    go_ret
    refine ⟨ret_bool ?_, rfl⟩
    rw [decide_eq_true h1, Bool.true_and]
    exact decide_eq_decide.2 (by omega)
  · go_enter Tryz.func57, Tryz.ntmps57
    go_wp2_with (go_at_call 54; refine (hp _).mono ?_; rintro e w1 ⟨rfl, rfl⟩)
    go_ret
    refine ⟨ret_bool ?_, rfl⟩
    rw [decide_eq_false (by omega), Bool.false_and]
set_option maxRecDepth 100000 in
theorem takes_n (w : World) (b v : Int) : Calls Tryz.prog 57 #[.int .u8 110, .int .i64 b, .int .i64 v] w fun e w' => e = .returned (.bool (decide (0 ≤ v) && decide (v ≤ 31))) ∧ w' = w := by
  by_cases h1 : 0 ≤ v
  · go_enter Tryz.func57, Tryz.ntmps57
    go_wp2
    go_ret
    refine ⟨ret_bool ?_, rfl⟩
    rw [decide_eq_true h1, Bool.true_and]
    exact decide_eq_decide.2 (by omega)
  · go_enter Tryz.func57, Tryz.ntmps57
    go_wp2
    go_ret
    refine ⟨ret_bool ?_, rfl⟩
    rw [decide_eq_false (by omega), Bool.false_and]
theorem takes_0 (w : World) (b v : Int) : Calls Tryz.prog 57 #[.int .u8 45, .int .i64 b, .int .i64 v] w fun e w' => e = .returned (.bool (decide (0 ≤ v) && decide (v ≤ 0))) ∧ w' = w := by
  go_enter Tryz.func57, Tryz.ntmps57
  go_wp2
  go_ret
  refine ⟨ret_bool ?_, rfl⟩
  by_cases h : v = 0
  · subst h; rfl
  · rw [show (v == 0) = false by simpa using h]
    by_cases h1 : 0 ≤ v
    · rw [decide_eq_true h1, decide_eq_false (by omega)]; rfl
    · rw [decide_eq_false h1]; rfl
end Go.Proofs.YtgofjmhdgmfgfaaGreatDoor
