import Derived.Test.YtghiffpolacmiabDoorTa
import Derived.Laws.BitsLemmas
namespace Go.Proofs.YtghiffpolacmiabDoor
open Go.ChangeShapes Go.WideShapes Go.ChangeAt Go.RowKit
set_option linter.unusedVariables false

theorem ret_u8 {k : IntKind} {a b : Int} (h : a = b) : Ending.returned (.int k a) = .returned (.int k b) := by rw [h]
/-- The lowest n bits. -/
theorem ones_0 (w : World) : Calls Tryd.prog 20 #[.int .u64 0] w fun e w' => e = .returned (.int .u32 0) ∧ w' = w := by
  go_enter Tryd.func20, Tryd.ntmps20
  go_wp2
  go_ret
  exact ⟨rfl, rfl⟩
theorem ones_4 (w : World) : Calls Tryd.prog 20 #[.int .u64 4] w fun e w' => e = .returned (.int .u32 15) ∧ w' = w := by
  go_enter Tryd.func20, Tryd.ntmps20
  go_wp2
  go_ret
  exact ⟨rfl, rfl⟩
theorem ones_6 (w : World) : Calls Tryd.prog 20 #[.int .u64 6] w fun e w' => e = .returned (.int .u32 63) ∧ w' = w := by
  go_enter Tryd.func20, Tryd.ntmps20
  go_wp2
  go_ret
  exact ⟨rfl, rfl⟩
theorem ones_18 (w : World) : Calls Tryd.prog 20 #[.int .u64 18] w fun e w' => e = .returned (.int .u32 262143) ∧ w' = w := by
  go_enter Tryd.func20, Tryd.ntmps20
  go_wp2
  go_ret
  exact ⟨rfl, rfl⟩
theorem ones_22 (w : World) : Calls Tryd.prog 20 #[.int .u64 22] w fun e w' => e = .returned (.int .u32 4194303) ∧ w' = w := by
  go_enter Tryd.func20, Tryd.ntmps20
  go_wp2
  go_ret
  exact ⟨rfl, rfl⟩
theorem ones_26 (w : World) : Calls Tryd.prog 20 #[.int .u64 26] w fun e w' => e = .returned (.int .u32 67108863) ∧ w' = w := by
  go_enter Tryd.func20, Tryd.ntmps20
  go_wp2
  go_ret
  exact ⟨rfl, rfl⟩
theorem mask_0 (w : World) : Calls Tryd.prog 19 #[.int .u64 0] w fun e w' => e = .returned (.int .u32 0) ∧ w' = w := by
  go_enter Tryd.func19, Tryd.ntmps19
  go_wp2
  go_ret
  exact ⟨rfl, rfl⟩
theorem mask_14 (w : World) : Calls Tryd.prog 19 #[.int .u64 14] w fun e w' => e = .returned (.int .u32 245760) ∧ w' = w := by
  go_enter Tryd.func19, Tryd.ntmps19
  go_wp2_with (go_at_call 20; refine (ones_4 _).mono ?_; rintro e w1 ⟨rfl, rfl⟩)
  go_ret
  exact ⟨rfl, rfl⟩
theorem mask_18 (w : World) : Calls Tryd.prog 19 #[.int .u64 18] w fun e w' => e = .returned (.int .u32 3932160) ∧ w' = w := by
  go_enter Tryd.func19, Tryd.ntmps19
  go_wp2_with (go_at_call 20; refine (ones_4 _).mono ?_; rintro e w1 ⟨rfl, rfl⟩)
  go_ret
  exact ⟨rfl, rfl⟩
theorem mask_22 (w : World) : Calls Tryd.prog 19 #[.int .u64 22] w fun e w' => e = .returned (.int .u32 62914560) ∧ w' = w := by
  go_enter Tryd.func19, Tryd.ntmps19
  go_wp2_with (go_at_call 20; refine (ones_4 _).mono ?_; rintro e w1 ⟨rfl, rfl⟩)
  go_ret
  exact ⟨rfl, rfl⟩

theorem wraps_u32' (n : Int) (h₀ : 0 ≤ n) (h₁ : n < 2 ^ 32) : IntKind.u32.wrap n = n := by
  simp [IntKind.wrap, IntKind.signed, IntKind.bits]; omega
theorem and_u32 (a b : Nat) (ha : a < 4294967296) (hb : b < 4294967296) : bits .and .u32 (a : Int) (b : Int) = ((a &&& b : Nat) : Int) :=
  (bits_nat .u32 32 (by decide) wraps_u32' a b (by omega) (by omega)).1
theorem or_u32 (a b : Nat) (ha : a < 4294967296) (hb : b < 4294967296) : bits .or .u32 (a : Int) (b : Int) = ((a ||| b : Nat) : Int) :=
  (bits_nat .u32 32 (by decide) wraps_u32' a b (by omega) (by omega)).2
/-- A field of four bits. -/
theorem and_field (v k : Nat) : (v &&& (15 * 2 ^ k)) / 2 ^ k = v / 2 ^ k % 16 := by
  apply Nat.eq_of_testBit_eq
  intro i
  rw [show (16 : Nat) = 2 ^ 4 from rfl]
  simp only [Nat.testBit_div_two_pow, Nat.testBit_and, Nat.testBit_mod_two_pow, show (15 : Nat) = 2 ^ 4 - 1 from rfl, Nat.testBit_mul_two_pow, Nat.testBit_two_pow_sub_one]
  by_cases h : i < 4 <;> simp [h, Nat.add_comm]
theorem at_0 (w : World) (v : Nat) (hv : v < 4294967296) : Calls Tryd.prog 21 #[.int .u32 v, .int .u64 0] w fun e w' => e = .returned (.int .u8 0) ∧ w' = w := by
  have h : bits .and .u32 (v : Int) 0 = 0 := by
    rw [show (0 : Int) = ((0 : Nat) : Int) from rfl, and_u32 v _ hv (by omega), Nat.and_zero]
  go_enter Tryd.func21, Tryd.ntmps21
  go_wp2_with (go_at_call 19; refine (mask_0 _).mono ?_; rintro e w1 ⟨rfl, rfl⟩)
  go_ret
  exact ⟨rfl, rfl⟩
theorem at_14 (w : World) (v : Nat) (hv : v < 4294967296) : Calls Tryd.prog 21 #[.int .u32 v, .int .u64 14] w fun e w' => e = .returned (.int .u8 (v / 16384 % 16 : Nat)) ∧ w' = w := by
  have h : bits .and .u32 (v : Int) 245760 / 16384 % 256 = ((v / 16384 % 16 : Nat) : Int) := by
    rw [show (245760 : Int) = ((245760 : Nat) : Int) from rfl, and_u32 v _ hv (by omega)]
    have := and_field v 14
    simp only [Nat.reducePow, Nat.reduceMul] at this
    omega
  generalize ((v / 16384 % 16 : Nat) : Int) = r at *
  go_enter Tryd.func21, Tryd.ntmps21
  go_wp2_with (go_at_call 19; refine (mask_14 _).mono ?_; rintro e w1 ⟨rfl, rfl⟩)
  go_ret
  exact ⟨ret_u8 h, rfl⟩
theorem at_18 (w : World) (v : Nat) (hv : v < 4294967296) : Calls Tryd.prog 21 #[.int .u32 v, .int .u64 18] w fun e w' => e = .returned (.int .u8 (v / 262144 % 16 : Nat)) ∧ w' = w := by
  have h : bits .and .u32 (v : Int) 3932160 / 262144 % 256 = ((v / 262144 % 16 : Nat) : Int) := by
    rw [show (3932160 : Int) = ((3932160 : Nat) : Int) from rfl, and_u32 v _ hv (by omega)]
    have := and_field v 18
    simp only [Nat.reducePow, Nat.reduceMul] at this
    omega
  generalize ((v / 262144 % 16 : Nat) : Int) = r at *
  go_enter Tryd.func21, Tryd.ntmps21
  go_wp2_with (go_at_call 19; refine (mask_18 _).mono ?_; rintro e w1 ⟨rfl, rfl⟩)
  go_ret
  exact ⟨ret_u8 h, rfl⟩
theorem at_22 (w : World) (v : Nat) (hv : v < 4294967296) : Calls Tryd.prog 21 #[.int .u32 v, .int .u64 22] w fun e w' => e = .returned (.int .u8 (v / 4194304 % 16 : Nat)) ∧ w' = w := by
  have h : bits .and .u32 (v : Int) 62914560 / 4194304 % 256 = ((v / 4194304 % 16 : Nat) : Int) := by
    rw [show (62914560 : Int) = ((62914560 : Nat) : Int) from rfl, and_u32 v _ hv (by omega)]
    have := and_field v 22
    simp only [Nat.reducePow, Nat.reduceMul] at this
    omega
  generalize ((v / 4194304 % 16 : Nat) : Int) = r at *
  go_enter Tryd.func21, Tryd.ntmps21
  go_wp2_with (go_at_call 19; refine (mask_22 _).mono ?_; rintro e w1 ⟨rfl, rfl⟩)
  go_ret
  exact ⟨ret_u8 h, rfl⟩
end Go.Proofs.YtghiffpolacmiabDoor
