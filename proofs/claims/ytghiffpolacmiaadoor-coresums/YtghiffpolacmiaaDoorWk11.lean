import Derived.Test.YtghiffpolacmiaaDoorWf
namespace Go.Proofs.YtghiffpolacmiaaDoor
open Go.ChangeShapes Go.WideShapes Go.ChangeAt Go.RowKit
set_option linter.unusedVariables false

set_option maxRecDepth 100000 in
set_option maxHeartbeats 40000000 in
theorem sums_core11 (w : World) (c : Int) (hc : 0 ≤ c ∧ c < 4294967296) (t : Int) (ht : ((c + 31) % 4294967296 - 2 * (c % 32)) % 4294967296 = t)
    (h1 : ∀ W, Kp w W → Calls Tryd.prog 15 #[.int .i64 1, .int .u32 0, .int .u32 0] W fun e w' => e = .returned (.tuple #[.int .u32 0, .bool true]) ∧ Kp w w')
    (h2 : ∀ W, Kp w W → Calls Tryd.prog 15 #[.int .i64 2, .int .u32 0, .int .u32 0] W fun e w' => e = .returned (.tuple #[.int .u32 0, .bool true]) ∧ Kp w w')
    (h3 : ∀ W, Kp w W → Calls Tryd.prog 15 #[.int .i64 4, .int .u32 0, .int .u32 0] W fun e w' => e = .returned (.tuple #[.int .u32 4294967295, .bool true]) ∧ Kp w w')
    (h4 : ∀ W, Kp w W → Calls Tryd.prog 15 #[.int .i64 5, .int .u32 0, .int .u32 0] W fun e w' => e = .returned (.tuple #[.int .u32 0, .bool true]) ∧ Kp w w')
    (h5 : ∀ W, Kp w W → Calls Tryd.prog 15 #[.int .i64 3, .int .u32 4294967295, .int .u32 0] W fun e w' => e = .returned (.tuple #[.int .u32 0, .bool true]) ∧ Kp w w')
    (h6 : ∀ W, Kp w W → Calls Tryd.prog 15 #[.int .i64 1, .int .u32 0, .int .u32 0] W fun e w' => e = .returned (.tuple #[.int .u32 0, .bool true]) ∧ Kp w w')
    (h7 : ∀ W, Kp w W → Calls Tryd.prog 15 #[.int .i64 13, .int .u32 0, .int .u32 0] W fun e w' => e = .returned (.tuple #[.int .u32 0, .bool true]) ∧ Kp w w')
    (h8 : ∀ W, Kp w W → Calls Tryd.prog 15 #[.int .i64 13, .int .u32 0, .int .u32 0] W fun e w' => e = .returned (.tuple #[.int .u32 0, .bool true]) ∧ Kp w w')
    (h9 : ∀ W, Kp w W → Calls Tryd.prog 15 #[.int .i64 8, .int .u32 0, .int .u32 0] W fun e w' => e = .returned (.tuple #[.int .u32 0, .bool true]) ∧ Kp w w')
    (h10 : ∀ W, Kp w W → Calls Tryd.prog 15 #[.int .i64 8, .int .u32 0, .int .u32 0] W fun e w' => e = .returned (.tuple #[.int .u32 0, .bool true]) ∧ Kp w w')
    (h11 : ∀ W, Kp w W → Calls Tryd.prog 15 #[.int .i64 6, .int .u32 0, .int .u32 0] W fun e w' => e = .returned (.tuple #[.int .u32 0, .bool true]) ∧ Kp w w')
    (h12 : ∀ W, Kp w W → Calls Tryd.prog 15 #[.int .i64 7, .int .u32 0, .int .u32 0] W fun e w' => e = .returned (.tuple #[.int .u32 0, .bool true]) ∧ Kp w w')
    (h13 : ∀ W, Kp w W → Calls Tryd.prog 15 #[.int .i64 1, .int .u32 0, .int .u32 0] W fun e w' => e = .returned (.tuple #[.int .u32 0, .bool true]) ∧ Kp w w')
    (h14 : ∀ W, Kp w W → Calls Tryd.prog 15 #[.int .i64 9, .int .u32 0, .int .u32 c] W fun e w' => e = .returned (.tuple #[.int .u32 0, .bool true]) ∧ Kp w w')
    (h15 : ∀ W, Kp w W → Calls Tryd.prog 15 #[.int .i64 10, .int .u32 0, .int .u32 c] W fun e w' => e = .returned (.tuple #[.int .u32 0, .bool true]) ∧ Kp w w')
    (h16 : ∀ W, Kp w W → Calls Tryd.prog 15 #[.int .i64 10, .int .u32 0, .int .u32 t] W fun e w' => e = .returned (.tuple #[.int .u32 0, .bool true]) ∧ Kp w w')
    (h17 : ∀ W, Kp w W → Calls Tryd.prog 15 #[.int .i64 11, .int .u32 0, .int .u32 c] W fun e w' => e = .returned (.tuple #[.int .u32 0, .bool true]) ∧ Kp w w')
    (h18 : ∀ W, Kp w W → Calls Tryd.prog 15 #[.int .i64 12, .int .u32 0, .int .u32 0] W fun e w' => e = .returned (.tuple #[.int .u32 0, .bool true]) ∧ Kp w w')
    : Calls Tryd.prog 7 #[.int .u32 0, .int .u32 0, .int .u32 c] w fun e w' => e = .returned (.bool true) ∧ Kp w w' := by
  have k0 := Kp.refl w
  go_enter Tryd.func7, Tryd.ntmps7
  go_upto_region 2 with (go_at_call 15; refine (h1 _ k0).mono ?_; rintro e w1 ⟨rfl, k1⟩)
  go_upto_region 3 with (go_at_call 15; refine (h2 _ k1).mono ?_; rintro e w2 ⟨rfl, k2⟩)
  clear h1
  go_upto_region 4 with (go_at_call 15; refine (h3 _ k2).mono ?_; rintro e w3 ⟨rfl, k3⟩)
  clear h2
  go_upto_region 5 with (go_at_call 15; refine (h4 _ k3).mono ?_; rintro e w4 ⟨rfl, k4⟩)
  clear h3
  go_upto_region 6 with (go_at_call 15; refine (h5 _ k4).mono ?_; rintro e w5 ⟨rfl, k5⟩)
  clear h4
  go_upto_region 7 with (go_at_call 15; refine (h6 _ k5).mono ?_; rintro e w6 ⟨rfl, k6⟩)
  clear h5
  go_upto_region 8 with (go_at_call 15; refine (h7 _ k6).mono ?_; rintro e w7 ⟨rfl, k7⟩)
  clear h6
  go_upto_region 9 with (go_at_call 15; refine (h8 _ k7).mono ?_; rintro e w8 ⟨rfl, k8⟩)
  clear h7
  go_upto_region 10 with (go_at_call 15; refine (h9 _ k8).mono ?_; rintro e w9 ⟨rfl, k9⟩)
  clear h8
  go_upto_region 11 with (go_at_call 15; refine (h10 _ k9).mono ?_; rintro e w10 ⟨rfl, k10⟩)
  clear h9
  go_upto_region 12 with (go_at_call 15; refine (h11 _ k10).mono ?_; rintro e w11 ⟨rfl, k11⟩)
  clear h10
  go_upto_region 13 with (go_at_call 15; refine (h12 _ k11).mono ?_; rintro e w12 ⟨rfl, k12⟩)
  clear h11
  go_upto_region 14 with (go_at_call 15; refine (h13 _ k12).mono ?_; rintro e w13 ⟨rfl, k13⟩)
  clear h12
  go_upto_region 15 with (go_at_call 15; refine (h14 _ k13).mono ?_; rintro e w14 ⟨rfl, k14⟩)
  clear h13
  go_upto_region 16 with (go_at_call 15; refine (h15 _ k14).mono ?_; rintro e w15 ⟨rfl, k15⟩)
  clear h14
  go_upto_region 17 with (go_at_call 15; refine (h16 _ k15).mono ?_; rintro e w16 ⟨rfl, k16⟩)
  clear h15
  go_upto_region 18 with (go_at_call 15; refine (h17 _ k16).mono ?_; rintro e w17 ⟨rfl, k17⟩)
  clear h16
  go_upto_region 19 with (go_at_call 15; refine (h18 _ k17).mono ?_; rintro e w18 ⟨rfl, k18⟩)
  clear h17
  clear h18 ht k0 k1 k2 k3 k4 k5 k6 k7 k8 k9 k10 k11 k12 k13 k14 k15 k16 k17
  go_upto_region 22 with (fail)
  go_upto_region 24 with (fail)
  go_wp2_with fail
  go_ret
  exact ⟨rfl, k18⟩
end Go.Proofs.YtghiffpolacmiaaDoor
