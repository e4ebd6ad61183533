import Derived.Test.YtghiffpolacmiaaDoorWd
namespace Go.Proofs.YtghiffpolacmiaaDoor
open Go.ChangeShapes Go.WideShapes Go.ChangeAt Go.RowKit
set_option linter.unusedVariables false

theorem word_any (w : World) (hg : Gt w) (op : Int) (d a b : Nat) :
    Calls Tryd.prog 20 #[.int .i64 op, .int .u8 (d : Nat), .int .u8 (a : Nat), .int .u8 (b : Nat)] w fun e w' => e = .returned (.int .u32 (ew op d a b 0)) ∧ Kp w w' := by
  have hE := Encode_any w hg op d a b 0
  unfold iv at hE
  have hx : ck op d a b 0 ≠ 0 → ew op d a b 0 = 0 := fun h => by unfold ew; rw [if_neg h]
  generalize ew op d a b 0 = r at *
  by_cases hc : ck op d a b 0 = 0
  · rw [hc] at hE
    clear hx hc
    go_enter Tryd.func20, Tryd.ntmps20
    go_wp2_with (go_at_call 13; refine hE.mono ?_; rintro e w1 ⟨rfl, k1⟩)
    go_ret
    exact ⟨rfl, k1⟩
  · have h0 := hx hc
    generalize ck op d a b 0 = c at *
    clear hx
    go_enter Tryd.func20, Tryd.ntmps20
    go_wp2_with (go_at_call 13; refine hE.mono ?_; rintro e w1 ⟨rfl, k1⟩)
    go_ret
    exact ⟨ret_int (k := .u32) h0.symm, k1⟩
/-- What an op with three registers makes of two numbers. -/
def dv (n : Nat) (a b : Int) : Int :=
  match n with
  | 1 => (a + b) % 4294967296
  | 2 => (a - b) % 4294967296
  | 3 => a * b % 4294967296
  | 4 => (if b = 0 then 4294967295 else a / b)
  | 5 => (if b = 0 then a else a % b)
  | 6 => bits .and .u32 a b
  | 7 => bits .or .u32 a b
  | 8 => bits .xor .u32 a b
  | 9 => a * 2 ^ (b % 32).toNat % 4294967296
  | 10 => a / 2 ^ (b % 32).toNat
  | 11 => wrap32 a / 2 ^ (b % 32).toNat % 4294967296
  | 12 => (decide (wrap32 a < wrap32 b)).toInt
  | 13 => (decide (a < b)).toInt
  | _ => 0
def rgab (a b : Int) : Rg := ⟨upR (upR (fun _ => 0) 2 a) 3 b, 0, 0, 0, false, false⟩
theorem build25_0 (w : World) : (Instr.build 25 #[]).run Tryd.prog w = .ok (.agg (rgc Rg.zero).toArray) w := by kernel_rfl
theorem dv_r1 (a b : Int) (bb : Nat) (p q r s : Value) : (insS ((rgab a b).st bb) (calmB (ew 1 1 2 3 0) [] 0 p q r s)).r = ⟨1, 1, 0, 0, 0, 0, false, 0, false, 0⟩ := by kernel_rfl
theorem dv_g1 (a b : Int) (bb : Nat) (p q r s : Value) : (insS ((rgab a b).st bb) (calmB (ew 1 1 2 3 0) [] 0 p q r s)).g.R 1 = dv 1 a b := by kernel_rfl
theorem dv_w1 : 0 ≤ ew 1 1 2 3 0 ∧ ew 1 1 2 3 0 < 4294967296 := by decide +kernel
theorem dv_r2 (a b : Int) (bb : Nat) (p q r s : Value) : (insS ((rgab a b).st bb) (calmB (ew 2 1 2 3 0) [] 0 p q r s)).r = ⟨1, 1, 0, 0, 0, 0, false, 0, false, 0⟩ := by kernel_rfl
theorem dv_g2 (a b : Int) (bb : Nat) (p q r s : Value) : (insS ((rgab a b).st bb) (calmB (ew 2 1 2 3 0) [] 0 p q r s)).g.R 1 = dv 2 a b := by kernel_rfl
theorem dv_w2 : 0 ≤ ew 2 1 2 3 0 ∧ ew 2 1 2 3 0 < 4294967296 := by decide +kernel
theorem dv_r3 (a b : Int) (bb : Nat) (p q r s : Value) : (insS ((rgab a b).st bb) (calmB (ew 3 1 2 3 0) [] 0 p q r s)).r = ⟨1, 1, 0, 0, 0, 0, false, 0, false, 0⟩ := by kernel_rfl
theorem dv_g3 (a b : Int) (bb : Nat) (p q r s : Value) : (insS ((rgab a b).st bb) (calmB (ew 3 1 2 3 0) [] 0 p q r s)).g.R 1 = dv 3 a b := by kernel_rfl
theorem dv_w3 : 0 ≤ ew 3 1 2 3 0 ∧ ew 3 1 2 3 0 < 4294967296 := by decide +kernel
theorem dv_r4 (a b : Int) (bb : Nat) (p q r s : Value) : (insS ((rgab a b).st bb) (calmB (ew 4 1 2 3 0) [] 0 p q r s)).r = ⟨1, 1, 0, 0, 0, 0, false, 0, false, 0⟩ := by kernel_rfl
theorem dv_g4 (a b : Int) (bb : Nat) (p q r s : Value) : (insS ((rgab a b).st bb) (calmB (ew 4 1 2 3 0) [] 0 p q r s)).g.R 1 = dv 4 a b := by kernel_rfl
theorem dv_w4 : 0 ≤ ew 4 1 2 3 0 ∧ ew 4 1 2 3 0 < 4294967296 := by decide +kernel
theorem dv_r5 (a b : Int) (bb : Nat) (p q r s : Value) : (insS ((rgab a b).st bb) (calmB (ew 5 1 2 3 0) [] 0 p q r s)).r = ⟨1, 1, 0, 0, 0, 0, false, 0, false, 0⟩ := by kernel_rfl
theorem dv_g5 (a b : Int) (bb : Nat) (p q r s : Value) : (insS ((rgab a b).st bb) (calmB (ew 5 1 2 3 0) [] 0 p q r s)).g.R 1 = dv 5 a b := by kernel_rfl
theorem dv_w5 : 0 ≤ ew 5 1 2 3 0 ∧ ew 5 1 2 3 0 < 4294967296 := by decide +kernel
theorem dv_r6 (a b : Int) (bb : Nat) (p q r s : Value) : (insS ((rgab a b).st bb) (calmB (ew 6 1 2 3 0) [] 0 p q r s)).r = ⟨1, 1, 0, 0, 0, 0, false, 0, false, 0⟩ := by kernel_rfl
theorem dv_g6 (a b : Int) (bb : Nat) (p q r s : Value) : (insS ((rgab a b).st bb) (calmB (ew 6 1 2 3 0) [] 0 p q r s)).g.R 1 = dv 6 a b := by kernel_rfl
theorem dv_w6 : 0 ≤ ew 6 1 2 3 0 ∧ ew 6 1 2 3 0 < 4294967296 := by decide +kernel
theorem dv_r7 (a b : Int) (bb : Nat) (p q r s : Value) : (insS ((rgab a b).st bb) (calmB (ew 7 1 2 3 0) [] 0 p q r s)).r = ⟨1, 1, 0, 0, 0, 0, false, 0, false, 0⟩ := by kernel_rfl
theorem dv_g7 (a b : Int) (bb : Nat) (p q r s : Value) : (insS ((rgab a b).st bb) (calmB (ew 7 1 2 3 0) [] 0 p q r s)).g.R 1 = dv 7 a b := by kernel_rfl
theorem dv_w7 : 0 ≤ ew 7 1 2 3 0 ∧ ew 7 1 2 3 0 < 4294967296 := by decide +kernel
theorem dv_r8 (a b : Int) (bb : Nat) (p q r s : Value) : (insS ((rgab a b).st bb) (calmB (ew 8 1 2 3 0) [] 0 p q r s)).r = ⟨1, 1, 0, 0, 0, 0, false, 0, false, 0⟩ := by kernel_rfl
theorem dv_g8 (a b : Int) (bb : Nat) (p q r s : Value) : (insS ((rgab a b).st bb) (calmB (ew 8 1 2 3 0) [] 0 p q r s)).g.R 1 = dv 8 a b := by kernel_rfl
theorem dv_w8 : 0 ≤ ew 8 1 2 3 0 ∧ ew 8 1 2 3 0 < 4294967296 := by decide +kernel
theorem dv_r9 (a b : Int) (bb : Nat) (p q r s : Value) : (insS ((rgab a b).st bb) (calmB (ew 9 1 2 3 0) [] 0 p q r s)).r = ⟨1, 1, 0, 0, 0, 0, false, 0, false, 0⟩ := by kernel_rfl
theorem dv_g9 (a b : Int) (bb : Nat) (p q r s : Value) : (insS ((rgab a b).st bb) (calmB (ew 9 1 2 3 0) [] 0 p q r s)).g.R 1 = dv 9 a b := by kernel_rfl
theorem dv_w9 : 0 ≤ ew 9 1 2 3 0 ∧ ew 9 1 2 3 0 < 4294967296 := by decide +kernel
theorem dv_r10 (a b : Int) (bb : Nat) (p q r s : Value) : (insS ((rgab a b).st bb) (calmB (ew 10 1 2 3 0) [] 0 p q r s)).r = ⟨1, 1, 0, 0, 0, 0, false, 0, false, 0⟩ := by kernel_rfl
theorem dv_g10 (a b : Int) (bb : Nat) (p q r s : Value) : (insS ((rgab a b).st bb) (calmB (ew 10 1 2 3 0) [] 0 p q r s)).g.R 1 = dv 10 a b := by kernel_rfl
theorem dv_w10 : 0 ≤ ew 10 1 2 3 0 ∧ ew 10 1 2 3 0 < 4294967296 := by decide +kernel
theorem dv_r11 (a b : Int) (bb : Nat) (p q r s : Value) : (insS ((rgab a b).st bb) (calmB (ew 11 1 2 3 0) [] 0 p q r s)).r = ⟨1, 1, 0, 0, 0, 0, false, 0, false, 0⟩ := by kernel_rfl
theorem dv_g11 (a b : Int) (bb : Nat) (p q r s : Value) : (insS ((rgab a b).st bb) (calmB (ew 11 1 2 3 0) [] 0 p q r s)).g.R 1 = dv 11 a b := by kernel_rfl
theorem dv_w11 : 0 ≤ ew 11 1 2 3 0 ∧ ew 11 1 2 3 0 < 4294967296 := by decide +kernel
theorem dv_r12 (a b : Int) (bb : Nat) (p q r s : Value) : (insS ((rgab a b).st bb) (calmB (ew 12 1 2 3 0) [] 0 p q r s)).r = ⟨1, 1, 0, 0, 0, 0, false, 0, false, 0⟩ := by kernel_rfl
theorem dv_g12 (a b : Int) (bb : Nat) (p q r s : Value) : (insS ((rgab a b).st bb) (calmB (ew 12 1 2 3 0) [] 0 p q r s)).g.R 1 = dv 12 a b := by kernel_rfl
theorem dv_w12 : 0 ≤ ew 12 1 2 3 0 ∧ ew 12 1 2 3 0 < 4294967296 := by decide +kernel
theorem dv_r13 (a b : Int) (bb : Nat) (p q r s : Value) : (insS ((rgab a b).st bb) (calmB (ew 13 1 2 3 0) [] 0 p q r s)).r = ⟨1, 1, 0, 0, 0, 0, false, 0, false, 0⟩ := by kernel_rfl
theorem dv_g13 (a b : Int) (bb : Nat) (p q r s : Value) : (insS ((rgab a b).st bb) (calmB (ew 13 1 2 3 0) [] 0 p q r s)).g.R 1 = dv 13 a b := by kernel_rfl
theorem dv_w13 : 0 ≤ ew 13 1 2 3 0 ∧ ew 13 1 2 3 0 < 4294967296 := by decide +kernel
end Go.Proofs.YtghiffpolacmiaaDoor
