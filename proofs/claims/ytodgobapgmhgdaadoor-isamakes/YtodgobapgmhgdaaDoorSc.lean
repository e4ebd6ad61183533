import Derived.Test.YtodgobapgmhgdaaDoorSb
namespace Go.Proofs.YtodgobapgmhgdaaDoor
open Go.ChangeShapes Go.WideShapes Go.ChangeAt Go.RowKit
set_option linter.unusedVariables false
theorem has_DAB_D (w : World) : Calls Tryd.prog 38 #[.string ⟨#[68, 65, 66]⟩, .int .u8 68] w fun e w' => e = .returned (.bool true) ∧ w' = w := by
  go_enter Tryd.func38, Tryd.ntmps38
  go_wp2
  go_loopw [5] (fun s5 wr => ∃ j : Nat, s5 = .int .i64 j ∧ Hid (0 = j) ∧ Hid (wr = w)) (fun s5 _ => 0 - (intOf s5).toNat)
  case atStart => exact ⟨0, rfl, rfl, rfl⟩
  case round =>
    obtain ⟨j, rfl, HJ, HW⟩ := hrel
    rcases HJ.out with rfl
    · skip
      have eb : ∀ hb, ((((⟨#[68, 65, 66]⟩ : ByteArray)[0]'hb).toNat : Nat) : Int) = 68 := fun _ => rfl
      go_wp2
      go_ret
      exact ⟨rfl, HW.out⟩
theorem has_DAB_A (w : World) : Calls Tryd.prog 38 #[.string ⟨#[68, 65, 66]⟩, .int .u8 65] w fun e w' => e = .returned (.bool true) ∧ w' = w := by
  go_enter Tryd.func38, Tryd.ntmps38
  go_wp2
  go_loopw [5] (fun s5 wr => ∃ j : Nat, s5 = .int .i64 j ∧ Hid (0 = j ∨ 1 = j) ∧ Hid (wr = w)) (fun s5 _ => 1 - (intOf s5).toNat)
  case atStart => exact ⟨0, rfl, .inl rfl, rfl⟩
  case round =>
    obtain ⟨j, rfl, HJ, HW⟩ := hrel
    rcases HJ.out with rfl | rfl
    · skip
      have eb : ∀ hb, ((((⟨#[68, 65, 66]⟩ : ByteArray)[0]'hb).toNat : Nat) : Int) = 68 := fun _ => rfl
      go_wp2
      exact ⟨⟨1, by go_num, .inr (rfl), HW⟩, by simp [intOf]⟩
    · skip
      have eb : ∀ hb, ((((⟨#[68, 65, 66]⟩ : ByteArray)[1]'hb).toNat : Nat) : Int) = 65 := fun _ => rfl
      go_wp2
      go_ret
      exact ⟨rfl, HW.out⟩
theorem has_DAB_B (w : World) : Calls Tryd.prog 38 #[.string ⟨#[68, 65, 66]⟩, .int .u8 66] w fun e w' => e = .returned (.bool true) ∧ w' = w := by
  go_enter Tryd.func38, Tryd.ntmps38
  go_wp2
  go_loopw [5] (fun s5 wr => ∃ j : Nat, s5 = .int .i64 j ∧ Hid (0 = j ∨ 1 = j ∨ 2 = j) ∧ Hid (wr = w)) (fun s5 _ => 2 - (intOf s5).toNat)
  case atStart => exact ⟨0, rfl, .inl rfl, rfl⟩
  case round =>
    obtain ⟨j, rfl, HJ, HW⟩ := hrel
    rcases HJ.out with rfl | rfl | rfl
    · skip
      have eb : ∀ hb, ((((⟨#[68, 65, 66]⟩ : ByteArray)[0]'hb).toNat : Nat) : Int) = 68 := fun _ => rfl
      go_wp2
      exact ⟨⟨1, by go_num, .inr (.inl rfl), HW⟩, by simp [intOf]⟩
    · skip
      have eb : ∀ hb, ((((⟨#[68, 65, 66]⟩ : ByteArray)[1]'hb).toNat : Nat) : Int) = 65 := fun _ => rfl
      go_wp2
      exact ⟨⟨2, by go_num, .inr (.inr (rfl)), HW⟩, by simp [intOf]⟩
    · skip
      have eb : ∀ hb, ((((⟨#[68, 65, 66]⟩ : ByteArray)[2]'hb).toNat : Nat) : Int) = 66 := fun _ => rfl
      go_wp2
      go_ret
      exact ⟨rfl, HW.out⟩
theorem has_DA_D (w : World) : Calls Tryd.prog 38 #[.string ⟨#[68, 65]⟩, .int .u8 68] w fun e w' => e = .returned (.bool true) ∧ w' = w := by
  go_enter Tryd.func38, Tryd.ntmps38
  go_wp2
  go_loopw [5] (fun s5 wr => ∃ j : Nat, s5 = .int .i64 j ∧ Hid (0 = j) ∧ Hid (wr = w)) (fun s5 _ => 0 - (intOf s5).toNat)
  case atStart => exact ⟨0, rfl, rfl, rfl⟩
  case round =>
    obtain ⟨j, rfl, HJ, HW⟩ := hrel
    rcases HJ.out with rfl
    · skip
      have eb : ∀ hb, ((((⟨#[68, 65]⟩ : ByteArray)[0]'hb).toNat : Nat) : Int) = 68 := fun _ => rfl
      go_wp2
      go_ret
      exact ⟨rfl, HW.out⟩
theorem has_DA_A (w : World) : Calls Tryd.prog 38 #[.string ⟨#[68, 65]⟩, .int .u8 65] w fun e w' => e = .returned (.bool true) ∧ w' = w := by
  go_enter Tryd.func38, Tryd.ntmps38
  go_wp2
  go_loopw [5] (fun s5 wr => ∃ j : Nat, s5 = .int .i64 j ∧ Hid (0 = j ∨ 1 = j) ∧ Hid (wr = w)) (fun s5 _ => 1 - (intOf s5).toNat)
  case atStart => exact ⟨0, rfl, .inl rfl, rfl⟩
  case round =>
    obtain ⟨j, rfl, HJ, HW⟩ := hrel
    rcases HJ.out with rfl | rfl
    · skip
      have eb : ∀ hb, ((((⟨#[68, 65]⟩ : ByteArray)[0]'hb).toNat : Nat) : Int) = 68 := fun _ => rfl
      go_wp2
      exact ⟨⟨1, by go_num, .inr (rfl), HW⟩, by simp [intOf]⟩
    · skip
      have eb : ∀ hb, ((((⟨#[68, 65]⟩ : ByteArray)[1]'hb).toNat : Nat) : Int) = 65 := fun _ => rfl
      go_wp2
      go_ret
      exact ⟨rfl, HW.out⟩
theorem has_DA_B (w : World) : Calls Tryd.prog 38 #[.string ⟨#[68, 65]⟩, .int .u8 66] w fun e w' => e = .returned (.bool false) ∧ w' = w := by
  go_enter Tryd.func38, Tryd.ntmps38
  go_wp2
  go_loopw [5] (fun s5 wr => ∃ j : Nat, s5 = .int .i64 j ∧ Hid (0 = j ∨ 1 = j ∨ 2 = j) ∧ Hid (wr = w)) (fun s5 _ => 2 - (intOf s5).toNat)
  case atStart => exact ⟨0, rfl, .inl rfl, rfl⟩
  case round =>
    obtain ⟨j, rfl, HJ, HW⟩ := hrel
    rcases HJ.out with rfl | rfl | rfl
    · skip
      have eb : ∀ hb, ((((⟨#[68, 65]⟩ : ByteArray)[0]'hb).toNat : Nat) : Int) = 68 := fun _ => rfl
      go_wp2
      exact ⟨⟨1, by go_num, .inr (.inl rfl), HW⟩, by simp [intOf]⟩
    · skip
      have eb : ∀ hb, ((((⟨#[68, 65]⟩ : ByteArray)[1]'hb).toNat : Nat) : Int) = 65 := fun _ => rfl
      go_wp2
      exact ⟨⟨2, by go_num, .inr (.inr (rfl)), HW⟩, by simp [intOf]⟩
    · skip
      go_wp2
      go_ret
      exact ⟨rfl, HW.out⟩
theorem has_AB_D (w : World) : Calls Tryd.prog 38 #[.string ⟨#[65, 66]⟩, .int .u8 68] w fun e w' => e = .returned (.bool false) ∧ w' = w := by
  go_enter Tryd.func38, Tryd.ntmps38
  go_wp2
  go_loopw [5] (fun s5 wr => ∃ j : Nat, s5 = .int .i64 j ∧ Hid (0 = j ∨ 1 = j ∨ 2 = j) ∧ Hid (wr = w)) (fun s5 _ => 2 - (intOf s5).toNat)
  case atStart => exact ⟨0, rfl, .inl rfl, rfl⟩
  case round =>
    obtain ⟨j, rfl, HJ, HW⟩ := hrel
    rcases HJ.out with rfl | rfl | rfl
    · skip
      have eb : ∀ hb, ((((⟨#[65, 66]⟩ : ByteArray)[0]'hb).toNat : Nat) : Int) = 65 := fun _ => rfl
      go_wp2
      exact ⟨⟨1, by go_num, .inr (.inl rfl), HW⟩, by simp [intOf]⟩
    · skip
      have eb : ∀ hb, ((((⟨#[65, 66]⟩ : ByteArray)[1]'hb).toNat : Nat) : Int) = 66 := fun _ => rfl
      go_wp2
      exact ⟨⟨2, by go_num, .inr (.inr (rfl)), HW⟩, by simp [intOf]⟩
    · skip
      go_wp2
      go_ret
      exact ⟨rfl, HW.out⟩
theorem has_AB_A (w : World) : Calls Tryd.prog 38 #[.string ⟨#[65, 66]⟩, .int .u8 65] w fun e w' => e = .returned (.bool true) ∧ w' = w := by
  go_enter Tryd.func38, Tryd.ntmps38
  go_wp2
  go_loopw [5] (fun s5 wr => ∃ j : Nat, s5 = .int .i64 j ∧ Hid (0 = j) ∧ Hid (wr = w)) (fun s5 _ => 0 - (intOf s5).toNat)
  case atStart => exact ⟨0, rfl, rfl, rfl⟩
  case round =>
    obtain ⟨j, rfl, HJ, HW⟩ := hrel
    rcases HJ.out with rfl
    · skip
      have eb : ∀ hb, ((((⟨#[65, 66]⟩ : ByteArray)[0]'hb).toNat : Nat) : Int) = 65 := fun _ => rfl
      go_wp2
      go_ret
      exact ⟨rfl, HW.out⟩
theorem has_AB_B (w : World) : Calls Tryd.prog 38 #[.string ⟨#[65, 66]⟩, .int .u8 66] w fun e w' => e = .returned (.bool true) ∧ w' = w := by
  go_enter Tryd.func38, Tryd.ntmps38
  go_wp2
  go_loopw [5] (fun s5 wr => ∃ j : Nat, s5 = .int .i64 j ∧ Hid (0 = j ∨ 1 = j) ∧ Hid (wr = w)) (fun s5 _ => 1 - (intOf s5).toNat)
  case atStart => exact ⟨0, rfl, .inl rfl, rfl⟩
  case round =>
    obtain ⟨j, rfl, HJ, HW⟩ := hrel
    rcases HJ.out with rfl | rfl
    · skip
      have eb : ∀ hb, ((((⟨#[65, 66]⟩ : ByteArray)[0]'hb).toNat : Nat) : Int) = 65 := fun _ => rfl
      go_wp2
      exact ⟨⟨1, by go_num, .inr (rfl), HW⟩, by simp [intOf]⟩
    · skip
      have eb : ∀ hb, ((((⟨#[65, 66]⟩ : ByteArray)[1]'hb).toNat : Nat) : Int) = 66 := fun _ => rfl
      go_wp2
      go_ret
      exact ⟨rfl, HW.out⟩
theorem has_D_D (w : World) : Calls Tryd.prog 38 #[.string ⟨#[68]⟩, .int .u8 68] w fun e w' => e = .returned (.bool true) ∧ w' = w := by
  go_enter Tryd.func38, Tryd.ntmps38
  go_wp2
  go_loopw [5] (fun s5 wr => ∃ j : Nat, s5 = .int .i64 j ∧ Hid (0 = j) ∧ Hid (wr = w)) (fun s5 _ => 0 - (intOf s5).toNat)
  case atStart => exact ⟨0, rfl, rfl, rfl⟩
  case round =>
    obtain ⟨j, rfl, HJ, HW⟩ := hrel
    rcases HJ.out with rfl
    · skip
      have eb : ∀ hb, ((((⟨#[68]⟩ : ByteArray)[0]'hb).toNat : Nat) : Int) = 68 := fun _ => rfl
      go_wp2
      go_ret
      exact ⟨rfl, HW.out⟩
theorem has_D_A (w : World) : Calls Tryd.prog 38 #[.string ⟨#[68]⟩, .int .u8 65] w fun e w' => e = .returned (.bool false) ∧ w' = w := by
  go_enter Tryd.func38, Tryd.ntmps38
  go_wp2
  go_loopw [5] (fun s5 wr => ∃ j : Nat, s5 = .int .i64 j ∧ Hid (0 = j ∨ 1 = j) ∧ Hid (wr = w)) (fun s5 _ => 1 - (intOf s5).toNat)
  case atStart => exact ⟨0, rfl, .inl rfl, rfl⟩
  case round =>
    obtain ⟨j, rfl, HJ, HW⟩ := hrel
    rcases HJ.out with rfl | rfl
    · skip
      have eb : ∀ hb, ((((⟨#[68]⟩ : ByteArray)[0]'hb).toNat : Nat) : Int) = 68 := fun _ => rfl
      go_wp2
      exact ⟨⟨1, by go_num, .inr (rfl), HW⟩, by simp [intOf]⟩
    · skip
      go_wp2
      go_ret
      exact ⟨rfl, HW.out⟩
theorem has_D_B (w : World) : Calls Tryd.prog 38 #[.string ⟨#[68]⟩, .int .u8 66] w fun e w' => e = .returned (.bool false) ∧ w' = w := by
  go_enter Tryd.func38, Tryd.ntmps38
  go_wp2
  go_loopw [5] (fun s5 wr => ∃ j : Nat, s5 = .int .i64 j ∧ Hid (0 = j ∨ 1 = j) ∧ Hid (wr = w)) (fun s5 _ => 1 - (intOf s5).toNat)
  case atStart => exact ⟨0, rfl, .inl rfl, rfl⟩
  case round =>
    obtain ⟨j, rfl, HJ, HW⟩ := hrel
    rcases HJ.out with rfl | rfl
    · skip
      have eb : ∀ hb, ((((⟨#[68]⟩ : ByteArray)[0]'hb).toNat : Nat) : Int) = 68 := fun _ => rfl
      go_wp2
      exact ⟨⟨1, by go_num, .inr (rfl), HW⟩, by simp [intOf]⟩
    · skip
      go_wp2
      go_ret
      exact ⟨rfl, HW.out⟩
theorem has_A_D (w : World) : Calls Tryd.prog 38 #[.string ⟨#[65]⟩, .int .u8 68] w fun e w' => e = .returned (.bool false) ∧ w' = w := by
  go_enter Tryd.func38, Tryd.ntmps38
  go_wp2
  go_loopw [5] (fun s5 wr => ∃ j : Nat, s5 = .int .i64 j ∧ Hid (0 = j ∨ 1 = j) ∧ Hid (wr = w)) (fun s5 _ => 1 - (intOf s5).toNat)
  case atStart => exact ⟨0, rfl, .inl rfl, rfl⟩
  case round =>
    obtain ⟨j, rfl, HJ, HW⟩ := hrel
    rcases HJ.out with rfl | rfl
    · skip
      have eb : ∀ hb, ((((⟨#[65]⟩ : ByteArray)[0]'hb).toNat : Nat) : Int) = 65 := fun _ => rfl
      go_wp2
      exact ⟨⟨1, by go_num, .inr (rfl), HW⟩, by simp [intOf]⟩
    · skip
      go_wp2
      go_ret
      exact ⟨rfl, HW.out⟩
theorem has_A_A (w : World) : Calls Tryd.prog 38 #[.string ⟨#[65]⟩, .int .u8 65] w fun e w' => e = .returned (.bool true) ∧ w' = w := by
  go_enter Tryd.func38, Tryd.ntmps38
  go_wp2
  go_loopw [5] (fun s5 wr => ∃ j : Nat, s5 = .int .i64 j ∧ Hid (0 = j) ∧ Hid (wr = w)) (fun s5 _ => 0 - (intOf s5).toNat)
  case atStart => exact ⟨0, rfl, rfl, rfl⟩
  case round =>
    obtain ⟨j, rfl, HJ, HW⟩ := hrel
    rcases HJ.out with rfl
    · skip
      have eb : ∀ hb, ((((⟨#[65]⟩ : ByteArray)[0]'hb).toNat : Nat) : Int) = 65 := fun _ => rfl
      go_wp2
      go_ret
      exact ⟨rfl, HW.out⟩
theorem has_A_B (w : World) : Calls Tryd.prog 38 #[.string ⟨#[65]⟩, .int .u8 66] w fun e w' => e = .returned (.bool false) ∧ w' = w := by
  go_enter Tryd.func38, Tryd.ntmps38
  go_wp2
  go_loopw [5] (fun s5 wr => ∃ j : Nat, s5 = .int .i64 j ∧ Hid (0 = j ∨ 1 = j) ∧ Hid (wr = w)) (fun s5 _ => 1 - (intOf s5).toNat)
  case atStart => exact ⟨0, rfl, .inl rfl, rfl⟩
  case round =>
    obtain ⟨j, rfl, HJ, HW⟩ := hrel
    rcases HJ.out with rfl | rfl
    · skip
      have eb : ∀ hb, ((((⟨#[65]⟩ : ByteArray)[0]'hb).toNat : Nat) : Int) = 65 := fun _ => rfl
      go_wp2
      exact ⟨⟨1, by go_num, .inr (rfl), HW⟩, by simp [intOf]⟩
    · skip
      go_wp2
      go_ret
      exact ⟨rfl, HW.out⟩
theorem has_N_D (w : World) : Calls Tryd.prog 38 #[.string ⟨#[]⟩, .int .u8 68] w fun e w' => e = .returned (.bool false) ∧ w' = w := by
  go_enter Tryd.func38, Tryd.ntmps38
  go_wp2
  go_loopw [5] (fun s5 wr => ∃ j : Nat, s5 = .int .i64 j ∧ Hid (0 = j) ∧ Hid (wr = w)) (fun s5 _ => 0 - (intOf s5).toNat)
  case atStart => exact ⟨0, rfl, rfl, rfl⟩
  case round =>
    obtain ⟨j, rfl, HJ, HW⟩ := hrel
    rcases HJ.out with rfl
    · skip
      go_wp2
      go_ret
      exact ⟨rfl, HW.out⟩
theorem has_N_A (w : World) : Calls Tryd.prog 38 #[.string ⟨#[]⟩, .int .u8 65] w fun e w' => e = .returned (.bool false) ∧ w' = w := by
  go_enter Tryd.func38, Tryd.ntmps38
  go_wp2
  go_loopw [5] (fun s5 wr => ∃ j : Nat, s5 = .int .i64 j ∧ Hid (0 = j) ∧ Hid (wr = w)) (fun s5 _ => 0 - (intOf s5).toNat)
  case atStart => exact ⟨0, rfl, rfl, rfl⟩
  case round =>
    obtain ⟨j, rfl, HJ, HW⟩ := hrel
    rcases HJ.out with rfl
    · skip
      go_wp2
      go_ret
      exact ⟨rfl, HW.out⟩
theorem has_N_B (w : World) : Calls Tryd.prog 38 #[.string ⟨#[]⟩, .int .u8 66] w fun e w' => e = .returned (.bool false) ∧ w' = w := by
  go_enter Tryd.func38, Tryd.ntmps38
  go_wp2
  go_loopw [5] (fun s5 wr => ∃ j : Nat, s5 = .int .i64 j ∧ Hid (0 = j) ∧ Hid (wr = w)) (fun s5 _ => 0 - (intOf s5).toNat)
  case atStart => exact ⟨0, rfl, rfl, rfl⟩
  case round =>
    obtain ⟨j, rfl, HJ, HW⟩ := hrel
    rcases HJ.out with rfl
    · skip
      go_wp2
      go_ret
      exact ⟨rfl, HW.out⟩
end Go.Proofs.YtodgobapgmhgdaaDoor
