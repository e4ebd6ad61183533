import Derived.Test.YtghiffpolacmiabGreatDoorUb
namespace Go.Proofs.YtghiffpolacmiabGreatDoor
open Go.ChangeShapes Go.WideShapes Go.ChangeAt Go.RowKit
set_option linter.unusedVariables false

/-! The document's own processor: small functions. -/
theorem field_26_6 (w : World) (v : Nat) (hv : v < 4294967296) : Calls Tryz.prog 27 #[.int .u32 (v : Nat), .int .i64 26, .int .i64 6] w fun e w' => e = .returned (.int .i64 ((v : Int) / 67108864 % 64)) ∧ Kp w w' := by
  go_enter Tryz.func27, Tryz.ntmps27
  go_upto_region 1 with (fail)
  go_quiet (fail)
  go_wp2_with fail
  go_ret
  refine ⟨ret_int (k := .i64) ?_, (Kp.refl w).drewN _⟩
  first | rfl | omega | (simp [IntKind.wrap, IntKind.bits, IntKind.signed]; omega)
theorem field_22_4 (w : World) (v : Nat) (hv : v < 4294967296) : Calls Tryz.prog 27 #[.int .u32 (v : Nat), .int .i64 22, .int .i64 4] w fun e w' => e = .returned (.int .i64 ((v : Int) / 4194304 % 16)) ∧ Kp w w' := by
  go_enter Tryz.func27, Tryz.ntmps27
  go_upto_region 1 with (fail)
  go_quiet (fail)
  go_wp2_with fail
  go_ret
  refine ⟨ret_int (k := .i64) ?_, (Kp.refl w).drewN _⟩
  first | rfl | omega | (simp [IntKind.wrap, IntKind.bits, IntKind.signed]; omega)
theorem field_18_4 (w : World) (v : Nat) (hv : v < 4294967296) : Calls Tryz.prog 27 #[.int .u32 (v : Nat), .int .i64 18, .int .i64 4] w fun e w' => e = .returned (.int .i64 ((v : Int) / 262144 % 16)) ∧ Kp w w' := by
  go_enter Tryz.func27, Tryz.ntmps27
  go_upto_region 1 with (fail)
  go_quiet (fail)
  go_wp2_with fail
  go_ret
  refine ⟨ret_int (k := .i64) ?_, (Kp.refl w).drewN _⟩
  first | rfl | omega | (simp [IntKind.wrap, IntKind.bits, IntKind.signed]; omega)
theorem field_14_4 (w : World) (v : Nat) (hv : v < 4294967296) : Calls Tryz.prog 27 #[.int .u32 (v : Nat), .int .i64 14, .int .i64 4] w fun e w' => e = .returned (.int .i64 ((v : Int) / 16384 % 16)) ∧ Kp w w' := by
  go_enter Tryz.func27, Tryz.ntmps27
  go_upto_region 1 with (fail)
  go_quiet (fail)
  go_wp2_with fail
  go_ret
  refine ⟨ret_int (k := .i64) ?_, (Kp.refl w).drewN _⟩
  first | rfl | omega | (simp [IntKind.wrap, IntKind.bits, IntKind.signed]; omega)
theorem field_0_18 (w : World) (v : Nat) (hv : v < 4294967296) : Calls Tryz.prog 27 #[.int .u32 (v : Nat), .int .i64 0, .int .i64 18] w fun e w' => e = .returned (.int .i64 ((v : Int) % 262144)) ∧ Kp w w' := by
  go_enter Tryz.func27, Tryz.ntmps27
  go_upto_region 1 with (fail)
  go_quiet (fail)
  go_wp2_with fail
  go_ret
  refine ⟨ret_int (k := .i64) ?_, (Kp.refl w).drewN _⟩
  first | rfl | omega | (simp [IntKind.wrap, IntKind.bits, IntKind.signed]; omega)
theorem field_0_22 (w : World) (v : Nat) (hv : v < 4294967296) : Calls Tryz.prog 27 #[.int .u32 (v : Nat), .int .i64 0, .int .i64 22] w fun e w' => e = .returned (.int .i64 ((v : Int) % 4194304)) ∧ Kp w w' := by
  go_enter Tryz.func27, Tryz.ntmps27
  go_upto_region 1 with (fail)
  go_quiet (fail)
  go_wp2_with fail
  go_ret
  refine ⟨ret_int (k := .i64) ?_, (Kp.refl w).drewN _⟩
  first | rfl | omega | (simp [IntKind.wrap, IntKind.bits, IntKind.signed]; omega)
theorem field_0_14 (w : World) (v : Nat) (hv : v < 4294967296) : Calls Tryz.prog 27 #[.int .u32 (v : Nat), .int .i64 0, .int .i64 14] w fun e w' => e = .returned (.int .i64 ((v : Int) % 16384)) ∧ Kp w w' := by
  go_enter Tryz.func27, Tryz.ntmps27
  go_upto_region 1 with (fail)
  go_quiet (fail)
  go_wp2_with fail
  go_ret
  refine ⟨ret_int (k := .i64) ?_, (Kp.refl w).drewN _⟩
  first | rfl | omega | (simp [IntKind.wrap, IntKind.bits, IntKind.signed]; omega)
theorem field_0_26 (w : World) (v : Nat) (hv : v < 4294967296) : Calls Tryz.prog 27 #[.int .u32 (v : Nat), .int .i64 0, .int .i64 26] w fun e w' => e = .returned (.int .i64 ((v : Int) % 67108864)) ∧ Kp w w' := by
  go_enter Tryz.func27, Tryz.ntmps27
  go_upto_region 1 with (fail)
  go_quiet (fail)
  go_wp2_with fail
  go_ret
  refine ⟨ret_int (k := .i64) ?_, (Kp.refl w).drewN _⟩
  first | rfl | omega | (simp [IntKind.wrap, IntKind.bits, IntKind.signed]; omega)
theorem signed_18 (w : World) (n : Int) (h : 0 ≤ n ∧ n < 262144) : Calls Tryz.prog 28 #[.int .i64 n, .int .i64 18] w fun e w' => e = .returned (.int .i64 (if 131072 ≤ n then n - 262144 else n)) ∧ Kp w w' := by
  by_cases hc : 131072 ≤ n
  · rw [if_pos hc]
    go_enter Tryz.func28, Tryz.ntmps28
    go_wp2_with fail
    go_ret
    exact ⟨rfl, Kp.refl w⟩
  · rw [if_neg hc]
    go_enter Tryz.func28, Tryz.ntmps28
    go_wp2_with fail
    go_ret
    exact ⟨rfl, Kp.refl w⟩
theorem signed_22 (w : World) (n : Int) (h : 0 ≤ n ∧ n < 4194304) : Calls Tryz.prog 28 #[.int .i64 n, .int .i64 22] w fun e w' => e = .returned (.int .i64 (if 2097152 ≤ n then n - 4194304 else n)) ∧ Kp w w' := by
  by_cases hc : 2097152 ≤ n
  · rw [if_pos hc]
    go_enter Tryz.func28, Tryz.ntmps28
    go_wp2_with fail
    go_ret
    exact ⟨rfl, Kp.refl w⟩
  · rw [if_neg hc]
    go_enter Tryz.func28, Tryz.ntmps28
    go_wp2_with fail
    go_ret
    exact ⟨rfl, Kp.refl w⟩
theorem signed_32 (w : World) (n : Int) (h : 0 ≤ n ∧ n < 4294967296) : Calls Tryz.prog 28 #[.int .i64 n, .int .i64 32] w fun e w' => e = .returned (.int .i64 (if 2147483648 ≤ n then n - 4294967296 else n)) ∧ Kp w w' := by
  by_cases hc : 2147483648 ≤ n
  · rw [if_pos hc]
    go_enter Tryz.func28, Tryz.ntmps28
    go_wp2_with fail
    go_ret
    exact ⟨rfl, Kp.refl w⟩
  · rw [if_neg hc]
    go_enter Tryz.func28, Tryz.ntmps28
    go_wp2_with fail
    go_ret
    exact ⟨rfl, Kp.refl w⟩
theorem signed_8 (w : World) (n : Int) (h : 0 ≤ n ∧ n < 256) : Calls Tryz.prog 28 #[.int .i64 n, .int .i64 8] w fun e w' => e = .returned (.int .i64 (if 128 ≤ n then n - 256 else n)) ∧ Kp w w' := by
  by_cases hc : 128 ≤ n
  · rw [if_pos hc]
    go_enter Tryz.func28, Tryz.ntmps28
    go_wp2_with fail
    go_ret
    exact ⟨rfl, Kp.refl w⟩
  · rw [if_neg hc]
    go_enter Tryz.func28, Tryz.ntmps28
    go_wp2_with fail
    go_ret
    exact ⟨rfl, Kp.refl w⟩
theorem signed_16 (w : World) (n : Int) (h : 0 ≤ n ∧ n < 65536) : Calls Tryz.prog 28 #[.int .i64 n, .int .i64 16] w fun e w' => e = .returned (.int .i64 (if 32768 ≤ n then n - 65536 else n)) ∧ Kp w w' := by
  by_cases hc : 32768 ≤ n
  · rw [if_pos hc]
    go_enter Tryz.func28, Tryz.ntmps28
    go_wp2_with fail
    go_ret
    exact ⟨rfl, Kp.refl w⟩
  · rw [if_neg hc]
    go_enter Tryz.func28, Tryz.ntmps28
    go_wp2_with fail
    go_ret
    exact ⟨rfl, Kp.refl w⟩
theorem sgn_any (w : World) (a : Int) (h : 0 ≤ a ∧ a < 4294967296) : Calls Tryz.prog 30 #[.int .u32 a] w fun e w' => e = .returned (.int .i64 (wrap32 a)) ∧ Kp w w' := by
  have hS := signed_32 w a h
  have e : wrap32 a = if 2147483648 ≤ a then a - 4294967296 else a := by simp only [wrap32]; split <;> omega
  rw [← e] at hS
  clear e
  generalize wrap32 a = b at *
  go_enter Tryz.func30, Tryz.ntmps30
  go_wp2_with (go_at_call 28; refine hS.mono ?_; rintro e w1 ⟨rfl, k1⟩)
  go_ret
  exact ⟨rfl, k1⟩
theorem yes_any (w : World) (q : Bool) : Calls Tryz.prog 29 #[.bool q] w fun e w' => e = .returned (.int .u32 q.toInt) ∧ Kp w w' := by
  cases q
  · go_enter Tryz.func29, Tryz.ntmps29
    go_wp2_with fail
    go_ret
    exact ⟨rfl, Kp.refl w⟩
  · go_enter Tryz.func29, Tryz.ntmps29
    go_wp2_with fail
    go_ret
    exact ⟨rfl, Kp.refl w⟩
end Go.Proofs.YtghiffpolacmiabGreatDoor
