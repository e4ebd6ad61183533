import Derived.Test.YtghiffpolacmiabGreatDoorRa
namespace Go.Proofs.YtghiffpolacmiabGreatDoor
open Go.ChangeShapes Go.WideShapes Go.ChangeAt Go.RowKit
set_option linter.unusedVariables false

theorem sar_hi (a : Int) (n : Nat) (hn : n < 32) (ha : 2147483648 ≤ a ∧ a < 4294967296) : (a / 2 ^ n + (4294967295 - 4294967295 / 2 ^ n)) % 4294967296 = wrap32 a / 2 ^ n % 4294967296 := by
  have e : wrap32 a = a - 4294967296 := by simp only [wrap32]; omega
  rw [e]
  have hc : n = 0 ∨ n = 1 ∨ n = 2 ∨ n = 3 ∨ n = 4 ∨ n = 5 ∨ n = 6 ∨ n = 7 ∨ n = 8 ∨ n = 9 ∨ n = 10 ∨ n = 11 ∨ n = 12 ∨ n = 13 ∨ n = 14 ∨ n = 15 ∨ n = 16 ∨ n = 17 ∨ n = 18 ∨ n = 19 ∨ n = 20 ∨ n = 21 ∨ n = 22 ∨ n = 23 ∨ n = 24 ∨ n = 25 ∨ n = 26 ∨ n = 27 ∨ n = 28 ∨ n = 29 ∨ n = 30 ∨ n = 31 := by omega
  rcases hc with rfl | rfl | rfl | rfl | rfl | rfl | rfl | rfl | rfl | rfl | rfl | rfl | rfl | rfl | rfl | rfl | rfl | rfl | rfl | rfl | rfl | rfl | rfl | rfl | rfl | rfl | rfl | rfl | rfl | rfl | rfl | rfl <;> (simp only [Int.reducePow]; omega)
theorem sar_lo (a : Int) (n : Nat) (ha : 0 ≤ a ∧ a < 2147483648) : a / 2 ^ n = wrap32 a / 2 ^ n % 4294967296 := by
  have e : wrap32 a = a := by simp only [wrap32]; omega
  rw [e]
  have hp : (0 : Int) < 2 ^ n := Int.pow_pos (by omega)
  have h0 := Int.ediv_nonneg ha.1 (Int.le_of_lt hp)
  have h1 := Int.ediv_le_self (2 ^ n) ha.1
  omega
set_option maxRecDepth 100000 in
theorem sum_0 (w : World) (a b : Int) (ha : 0 ≤ a ∧ a < 4294967296) (hb : 0 ≤ b ∧ b < 4294967296) : Calls Tryz.prog 17 #[.int .i64 0, .int .u32 a, .int .u32 b] w fun e w' => e = .returned (.int .u32 ((a + b) % 4294967296)) ∧ Kp w w' := by
  go_enter Tryz.func17, Tryz.ntmps17
  go_wp2_with fail
  go_ret
  exact ⟨rfl, Kp.refl w⟩
set_option maxRecDepth 100000 in
theorem sum_1 (w : World) (a b : Int) (ha : 0 ≤ a ∧ a < 4294967296) (hb : 0 ≤ b ∧ b < 4294967296) : Calls Tryz.prog 17 #[.int .i64 1, .int .u32 a, .int .u32 b] w fun e w' => e = .returned (.int .u32 ((a - b) % 4294967296)) ∧ Kp w w' := by
  go_enter Tryz.func17, Tryz.ntmps17
  go_wp2_with fail
  go_ret
  exact ⟨rfl, Kp.refl w⟩
set_option maxRecDepth 100000 in
theorem sum_2 (w : World) (a b : Int) (ha : 0 ≤ a ∧ a < 4294967296) (hb : 0 ≤ b ∧ b < 4294967296) : Calls Tryz.prog 17 #[.int .i64 2, .int .u32 a, .int .u32 b] w fun e w' => e = .returned (.int .u32 (a * b % 4294967296)) ∧ Kp w w' := by
  go_enter Tryz.func17, Tryz.ntmps17
  go_wp2_with fail
  go_ret
  exact ⟨rfl, Kp.refl w⟩
set_option maxRecDepth 100000 in
theorem sum_3 (w : World) (a b : Int) (ha : 0 ≤ a ∧ a < 4294967296) (hb : 0 ≤ b ∧ b < 4294967296) : Calls Tryz.prog 17 #[.int .i64 3, .int .u32 a, .int .u32 b] w fun e w' => e = .returned (.int .u32 ((if b = 0 then 4294967295 else a / b))) ∧ Kp w w' := by
  by_cases h0 : b = 0
  · subst h0
    rw [if_pos rfl]
    go_enter Tryz.func17, Tryz.ntmps17
    go_wp2_with fail
    go_ret
    exact ⟨rfl, Kp.refl w⟩
  · rw [if_neg h0]
    have hb0 : (b == 0) = false := by simpa using h0
    go_enter Tryz.func17, Tryz.ntmps17
    go_wp2_with fail
    go_ret
    exact ⟨ret_int (k := .u32) (by first | rfl | (rw [Int.tdiv_eq_ediv_of_nonneg ha.1]) | (rw [Int.tmod_eq_emod_of_nonneg ha.1])), Kp.refl w⟩
set_option maxRecDepth 100000 in
theorem sum_4 (w : World) (a b : Int) (ha : 0 ≤ a ∧ a < 4294967296) (hb : 0 ≤ b ∧ b < 4294967296) : Calls Tryz.prog 17 #[.int .i64 4, .int .u32 a, .int .u32 b] w fun e w' => e = .returned (.int .u32 ((if b = 0 then a else a % b))) ∧ Kp w w' := by
  by_cases h0 : b = 0
  · subst h0
    rw [if_pos rfl]
    go_enter Tryz.func17, Tryz.ntmps17
    go_wp2_with fail
    go_ret
    exact ⟨rfl, Kp.refl w⟩
  · rw [if_neg h0]
    have hb0 : (b == 0) = false := by simpa using h0
    go_enter Tryz.func17, Tryz.ntmps17
    go_wp2_with fail
    go_ret
    exact ⟨ret_int (k := .u32) (by first | rfl | (rw [Int.tdiv_eq_ediv_of_nonneg ha.1]) | (rw [Int.tmod_eq_emod_of_nonneg ha.1])), Kp.refl w⟩
set_option maxRecDepth 100000 in
theorem sum_5 (w : World) (a b : Int) (ha : 0 ≤ a ∧ a < 4294967296) (hb : 0 ≤ b ∧ b < 4294967296) : Calls Tryz.prog 17 #[.int .i64 5, .int .u32 a, .int .u32 b] w fun e w' => e = .returned (.int .u32 (bits .and .u32 a b)) ∧ Kp w w' := by
  go_enter Tryz.func17, Tryz.ntmps17
  go_wp2_with fail
  go_ret
  exact ⟨rfl, Kp.refl w⟩
set_option maxRecDepth 100000 in
theorem sum_6 (w : World) (a b : Int) (ha : 0 ≤ a ∧ a < 4294967296) (hb : 0 ≤ b ∧ b < 4294967296) : Calls Tryz.prog 17 #[.int .i64 6, .int .u32 a, .int .u32 b] w fun e w' => e = .returned (.int .u32 (bits .or .u32 a b)) ∧ Kp w w' := by
  go_enter Tryz.func17, Tryz.ntmps17
  go_wp2_with fail
  go_ret
  exact ⟨rfl, Kp.refl w⟩
set_option maxRecDepth 100000 in
theorem sum_7 (w : World) (a b : Int) (ha : 0 ≤ a ∧ a < 4294967296) (hb : 0 ≤ b ∧ b < 4294967296) : Calls Tryz.prog 17 #[.int .i64 7, .int .u32 a, .int .u32 b] w fun e w' => e = .returned (.int .u32 (bits .xor .u32 a b)) ∧ Kp w w' := by
  go_enter Tryz.func17, Tryz.ntmps17
  go_wp2_with fail
  go_ret
  exact ⟨rfl, Kp.refl w⟩
set_option maxRecDepth 100000 in
theorem sum_8 (w : World) (a b : Int) (ha : 0 ≤ a ∧ a < 4294967296) (hb : 0 ≤ b ∧ b < 4294967296) : Calls Tryz.prog 17 #[.int .i64 8, .int .u32 a, .int .u32 b] w fun e w' => e = .returned (.int .u32 (a * 2 ^ (b % 32).toNat % 4294967296)) ∧ Kp w w' := by
  go_enter Tryz.func17, Tryz.ntmps17
  go_wp2_with fail
  go_ret
  exact ⟨rfl, Kp.refl w⟩
set_option maxRecDepth 100000 in
theorem sum_9 (w : World) (a b : Int) (ha : 0 ≤ a ∧ a < 4294967296) (hb : 0 ≤ b ∧ b < 4294967296) : Calls Tryz.prog 17 #[.int .i64 9, .int .u32 a, .int .u32 b] w fun e w' => e = .returned (.int .u32 (a / 2 ^ (b % 32).toNat)) ∧ Kp w w' := by
  go_enter Tryz.func17, Tryz.ntmps17
  go_wp2_with fail
  go_ret
  exact ⟨rfl, Kp.refl w⟩
set_option maxRecDepth 100000 in
theorem sum_10 (w : World) (a b : Int) (ha : 0 ≤ a ∧ a < 4294967296) (hb : 0 ≤ b ∧ b < 4294967296) : Calls Tryz.prog 17 #[.int .i64 10, .int .u32 a, .int .u32 b] w fun e w' => e = .returned (.int .u32 (wrap32 a / 2 ^ (b % 32).toNat % 4294967296)) ∧ Kp w w' := by
  by_cases hc : 2147483648 ≤ a
  · have e := sar_hi a (b % 32).toNat (by omega) ⟨hc, ha.2⟩
    go_enter Tryz.func17, Tryz.ntmps17
    go_wp2_with fail
    go_ret
    exact ⟨ret_int (k := .u32) (by first | exact e | (rw [← e]; omega)), Kp.refl w⟩
  · have e := sar_lo a (b % 32).toNat ⟨ha.1, by omega⟩
    go_enter Tryz.func17, Tryz.ntmps17
    go_wp2_with fail
    go_ret
    exact ⟨ret_int (k := .u32) (by first | rfl | exact e), Kp.refl w⟩
set_option maxRecDepth 100000 in
theorem sum_11 (w : World) (a b : Int) (ha : 0 ≤ a ∧ a < 4294967296) (hb : 0 ≤ b ∧ b < 4294967296) : Calls Tryz.prog 17 #[.int .i64 11, .int .u32 a, .int .u32 b] w fun e w' => e = .returned (.int .u32 ((decide (wrap32 a < wrap32 b)).toInt)) ∧ Kp w w' := by
  have h1 := fun w => sgn_any w a ha
  have h2 := fun w => sgn_any w b hb
  generalize wrap32 a = x at *
  generalize wrap32 b = y at *
  have h3 := fun w => yes_any w (decide (x < y))
  generalize (decide (x < y)).toInt = r at *
  go_enter Tryz.func17, Tryz.ntmps17
  go_wp2_with (first
    | (go_at_call 30; refine (h1 _).mono ?_; rintro e w1 ⟨rfl, k1⟩)
    | (go_at_call 30; refine (h2 _).mono ?_; rintro e w2 ⟨rfl, k2⟩)
    | (go_at_call 29; refine (h3 _).mono ?_; rintro e w3 ⟨rfl, k3⟩))
  go_ret
  exact ⟨rfl, Kp.trans k1 (Kp.trans k2 k3)⟩
set_option maxRecDepth 100000 in
theorem sum_12 (w : World) (a b : Int) (ha : 0 ≤ a ∧ a < 4294967296) (hb : 0 ≤ b ∧ b < 4294967296) : Calls Tryz.prog 17 #[.int .i64 12, .int .u32 a, .int .u32 b] w fun e w' => e = .returned (.int .u32 ((decide (a < b)).toInt)) ∧ Kp w w' := by
  have h3 := fun w => yes_any w (decide (a < b))
  generalize (decide (a < b)).toInt = r at *
  go_enter Tryz.func17, Tryz.ntmps17
  go_wp2_with (go_at_call 29; refine (h3 _).mono ?_; rintro e w3 ⟨rfl, k3⟩)
  go_ret
  exact ⟨rfl, k3⟩
set_option maxRecDepth 100000 in
theorem taken_31 (w : World) (a b : Int) (ha : 0 ≤ a ∧ a < 4294967296) (hb : 0 ≤ b ∧ b < 4294967296) : Calls Tryz.prog 21 #[.int .i64 31, .int .u32 a, .int .u32 b] w fun e w' => e = .returned (.bool ((a == b))) ∧ Kp w w' := by
  go_enter Tryz.func21, Tryz.ntmps21
  go_wp2_with fail
  go_ret
  exact ⟨rfl, Kp.refl w⟩
set_option maxRecDepth 100000 in
theorem taken_32 (w : World) (a b : Int) (ha : 0 ≤ a ∧ a < 4294967296) (hb : 0 ≤ b ∧ b < 4294967296) : Calls Tryz.prog 21 #[.int .i64 32, .int .u32 a, .int .u32 b] w fun e w' => e = .returned (.bool ((!(a == b)))) ∧ Kp w w' := by
  go_enter Tryz.func21, Tryz.ntmps21
  go_wp2_with fail
  go_ret
  exact ⟨rfl, Kp.refl w⟩
set_option maxRecDepth 100000 in
theorem taken_33 (w : World) (a b : Int) (ha : 0 ≤ a ∧ a < 4294967296) (hb : 0 ≤ b ∧ b < 4294967296) : Calls Tryz.prog 21 #[.int .i64 33, .int .u32 a, .int .u32 b] w fun e w' => e = .returned (.bool (decide (wrap32 a < wrap32 b))) ∧ Kp w w' := by
  have h1 := fun w => sgn_any w a ha
  have h2 := fun w => sgn_any w b hb
  generalize wrap32 a = x at *
  generalize wrap32 b = y at *
  go_enter Tryz.func21, Tryz.ntmps21
  go_wp2_with (first
    | (go_at_call 30; refine (h1 _).mono ?_; rintro e w1 ⟨rfl, k1⟩)
    | (go_at_call 30; refine (h2 _).mono ?_; rintro e w2 ⟨rfl, k2⟩))
  go_ret
  exact ⟨rfl, Kp.trans k1 k2⟩
set_option maxRecDepth 100000 in
theorem taken_34 (w : World) (a b : Int) (ha : 0 ≤ a ∧ a < 4294967296) (hb : 0 ≤ b ∧ b < 4294967296) : Calls Tryz.prog 21 #[.int .i64 34, .int .u32 a, .int .u32 b] w fun e w' => e = .returned (.bool ((!decide (wrap32 a < wrap32 b)))) ∧ Kp w w' := by
  have h1 := fun w => sgn_any w a ha
  have h2 := fun w => sgn_any w b hb
  generalize wrap32 a = x at *
  generalize wrap32 b = y at *
  have e : (!decide (x < y)) = decide (y ≤ x) := by
    by_cases h : x < y
    · rw [decide_eq_true h, decide_eq_false (by omega)]; rfl
    · rw [decide_eq_false h, decide_eq_true (by omega)]; rfl
  rw [e]
  clear e
  go_enter Tryz.func21, Tryz.ntmps21
  go_wp2_with (first
    | (go_at_call 30; refine (h1 _).mono ?_; rintro e w1 ⟨rfl, k1⟩)
    | (go_at_call 30; refine (h2 _).mono ?_; rintro e w2 ⟨rfl, k2⟩))
  go_ret
  exact ⟨rfl, Kp.trans k1 k2⟩
set_option maxRecDepth 100000 in
theorem taken_35 (w : World) (a b : Int) (ha : 0 ≤ a ∧ a < 4294967296) (hb : 0 ≤ b ∧ b < 4294967296) : Calls Tryz.prog 21 #[.int .i64 35, .int .u32 a, .int .u32 b] w fun e w' => e = .returned (.bool (decide (a < b))) ∧ Kp w w' := by
  go_enter Tryz.func21, Tryz.ntmps21
  go_wp2_with fail
  go_ret
  exact ⟨rfl, Kp.refl w⟩
set_option maxRecDepth 100000 in
theorem taken_36 (w : World) (a b : Int) (ha : 0 ≤ a ∧ a < 4294967296) (hb : 0 ≤ b ∧ b < 4294967296) : Calls Tryz.prog 21 #[.int .i64 36, .int .u32 a, .int .u32 b] w fun e w' => e = .returned (.bool (decide (b ≤ a))) ∧ Kp w w' := by
  go_enter Tryz.func21, Tryz.ntmps21
  go_wp2_with fail
  go_ret
  exact ⟨rfl, Kp.refl w⟩
theorem short_13 (w : World) : Calls Tryz.prog 18 #[.int .i64 13] w fun e w' => e = .returned (.int .i64 0) ∧ Kp w w' := by
  go_enter Tryz.func18, Tryz.ntmps18
  go_wp2_with fail
  go_ret
  exact ⟨rfl, (Kp.refl w).alloc _⟩
theorem short_14 (w : World) : Calls Tryz.prog 18 #[.int .i64 14] w fun e w' => e = .returned (.int .i64 5) ∧ Kp w w' := by
  go_enter Tryz.func18, Tryz.ntmps18
  go_wp2_with fail
  go_ret
  exact ⟨rfl, (Kp.refl w).alloc _⟩
theorem short_15 (w : World) : Calls Tryz.prog 18 #[.int .i64 15] w fun e w' => e = .returned (.int .i64 6) ∧ Kp w w' := by
  go_enter Tryz.func18, Tryz.ntmps18
  go_wp2_with fail
  go_ret
  exact ⟨rfl, (Kp.refl w).alloc _⟩
theorem short_16 (w : World) : Calls Tryz.prog 18 #[.int .i64 16] w fun e w' => e = .returned (.int .i64 7) ∧ Kp w w' := by
  go_enter Tryz.func18, Tryz.ntmps18
  go_wp2_with fail
  go_ret
  exact ⟨rfl, (Kp.refl w).alloc _⟩
theorem short_17 (w : World) : Calls Tryz.prog 18 #[.int .i64 17] w fun e w' => e = .returned (.int .i64 8) ∧ Kp w w' := by
  go_enter Tryz.func18, Tryz.ntmps18
  go_wp2_with fail
  go_ret
  exact ⟨rfl, (Kp.refl w).alloc _⟩
theorem short_18 (w : World) : Calls Tryz.prog 18 #[.int .i64 18] w fun e w' => e = .returned (.int .i64 9) ∧ Kp w w' := by
  go_enter Tryz.func18, Tryz.ntmps18
  go_wp2_with fail
  go_ret
  exact ⟨rfl, (Kp.refl w).alloc _⟩
theorem short_19 (w : World) : Calls Tryz.prog 18 #[.int .i64 19] w fun e w' => e = .returned (.int .i64 10) ∧ Kp w w' := by
  go_enter Tryz.func18, Tryz.ntmps18
  go_wp2_with fail
  go_ret
  exact ⟨rfl, (Kp.refl w).alloc _⟩
theorem short_20 (w : World) : Calls Tryz.prog 18 #[.int .i64 20] w fun e w' => e = .returned (.int .i64 11) ∧ Kp w w' := by
  go_enter Tryz.func18, Tryz.ntmps18
  go_wp2_with fail
  go_ret
  exact ⟨rfl, (Kp.refl w).alloc _⟩
theorem short_21 (w : World) : Calls Tryz.prog 18 #[.int .i64 21] w fun e w' => e = .returned (.int .i64 12) ∧ Kp w w' := by
  go_enter Tryz.func18, Tryz.ntmps18
  go_wp2_with fail
  go_ret
  exact ⟨rfl, (Kp.refl w).alloc _⟩
end Go.Proofs.YtghiffpolacmiabGreatDoor
