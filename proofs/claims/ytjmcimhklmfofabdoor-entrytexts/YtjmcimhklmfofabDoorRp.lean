import Derived.Test.YtjmcimhklmfofabDoorFb
namespace Go.Proofs.YtjmcimhklmfofabDoor
open Go.ChangeShapes Go.WideShapes Go.ChangeAt Go.RowKit
set_option linter.unusedVariables false

set_option maxRecDepth 100000 in
theorem hp48 (w : World) (s : ByteArray) (b : Bool) (hs : 1 ≤ s.size) (h2 : s.size < 1000) (hb : ((s.extract 0 1).toList == [48]) = b) : Calls Tryd.prog 43 #[.string s, .string ⟨#[48]⟩] w fun e w' => e = .returned (.bool b) ∧ w' = w := by
  have HB : Hid _ := hb
  clear hb
  go_enter Tryd.func43, Tryd.ntmps43
  go_wp2
  go_ret
  exact ⟨ret_bool HB.out, rfl⟩
theorem hp36 (w : World) (s : ByteArray) (b : Bool) (hs : 1 ≤ s.size) (h2 : s.size < 1000) (hb : ((s.extract 0 1).toList == [48]) = b) : Calls Tryd.prog 30 #[.string s, .string ⟨#[48]⟩] w fun e w' => e = .returned (.bool b) ∧ w' = w := by
  go_enter Tryd.func30, Tryd.ntmps30
  go_wp2_with (go_at_call 43; refine (hp48 _ s b hs h2 hb).mono ?_; rintro e w1 ⟨rfl, rfl⟩)
  go_ret
  exact ⟨rfl, rfl⟩

set_option maxRecDepth 100000 in
theorem mul64 (w : World) : Calls Tryd.prog 42 #[.int .u64 1, .int .u64 2] w fun e w' => e = .returned (.tuple #[.int .u64 0, .int .u64 2]) ∧ w' = w := by
  have e1 : bits .and .u64 1 4294967295 = 1 := by decide +kernel
  have e2 : bits .and .u64 2 4294967295 = 2 := by decide +kernel
  have e3 : bits .and .u64 0 4294967295 = 0 := by decide +kernel
  go_enter Tryd.func42, Tryd.ntmps42
  go_wp2
  go_ret2
  exact ⟨rfl, rfl⟩
theorem mul35 (w : World) : Calls Tryd.prog 29 #[.int .u64 1, .int .u64 2] w fun e w' => e = .returned (.tuple #[.int .u64 0, .int .u64 2]) ∧ w' = w := by
  go_enter Tryd.func29, Tryd.ntmps29
  go_wp2_with (go_at_call 42; refine (mul64 _).mono ?_; rintro e w1 ⟨rfl, rfl⟩)
  go_ret2
  exact ⟨rfl, rfl⟩

set_option maxRecDepth 100000 in
theorem rep_0 (w : World) : Calls Tryd.prog 25 #[.string ⟨#[48]⟩, .int .i64 0] w fun e w' => e = .returned (.string ⟨#[]⟩) ∧ w' = w := by
  go_enter Tryd.func25, Tryd.ntmps25
  go_wp2
  go_ret
  exact ⟨rfl, rfl⟩
set_option maxRecDepth 100000 in
theorem rep_1 (w : World) : Calls Tryd.prog 25 #[.string ⟨#[48]⟩, .int .i64 1] w fun e w' => e = .returned (.string ⟨#[48]⟩) ∧ w' = w := by
  go_enter Tryd.func25, Tryd.ntmps25
  go_wp2
  go_ret
  exact ⟨rfl, rfl⟩
set_option maxRecDepth 100000 in
theorem rep_2 (w : World) : Calls Tryd.prog 25 #[.string ⟨#[48]⟩, .int .i64 2] w fun e w' => e = .returned (.string ⟨#[48, 48]⟩) ∧ w' = w := by
  go_enter Tryd.func25, Tryd.ntmps25
  go_wp2_with (go_at_call 29; refine (mul35 _).mono ?_; rintro e w1 ⟨rfl, rfl⟩)
  go_wp2_with (go_at_call 30; first | (refine (hp36 _ _ true (by decide +kernel) (by decide +kernel) (by decide +kernel)).mono ?_; rintro e w2 ⟨rfl, rfl⟩) | (refine (hp36 _ _ false (by decide +kernel) (by decide +kernel) (by decide +kernel)).mono ?_; rintro e w2 ⟨rfl, rfl⟩))
  go_ret
  exact ⟨rfl, rfl⟩
end Go.Proofs.YtjmcimhklmfofabDoor
