import Derived.Test.YtfolnmmlhknmiaaGreatDoorEo
namespace Go.Proofs.YtfolnmmlhknmiaaGreatDoor
namespace Ent
open Go.ChangeShapes Go.WideShapes Go.ChangeAt Go.RowKit
set_option linter.unusedVariables false

theorem perm_a : ∀ p : Fin 256, ((bits .andNot .u8 (p.val : Int) 7 == 0) = false → pm 1 p.val = false) := by decide +kernel
theorem perm_b : ∀ p : Fin 256, ((bits .andNot .u8 (p.val : Int) 7 == 0) = true → (bits .and .u8 (p.val : Int) 2 == 0) = false → (bits .and .u8 (p.val : Int) 1 != 0) = pm 1 p.val) := by decide +kernel
theorem perm_c : ∀ p : Fin 256, ((bits .andNot .u8 (p.val : Int) 7 == 0) = true → (bits .and .u8 (p.val : Int) 2 == 0) = true → ((p.val : Int) != 0) = pm 1 p.val) := by decide +kernel
theorem pm_other {k : Int} (h : k ≠ 1) (p : Nat) : pm k p = ((p : Int) == 0) := by
  unfold pm
  rw [if_neg h]
  cases p <;> rfl

theorem ret_bool {a b : Bool} (h : a = b) : Ending.returned (.bool a) = .returned (.bool b) := by rw [h]

theorem permMayBe_any (w : World) (k : Int) (p : Nat) (hp : p < 256) :
    Calls Tryz.prog 197 #[.int .i64 k, .int .u8 p] w fun e w' => e = .returned (.bool (pm k p)) ∧ w' = w := by
  by_cases h : k = 1
  · subst h
    have A := perm_a ⟨p, hp⟩
    have B := perm_b ⟨p, hp⟩
    have C := perm_c ⟨p, hp⟩
    simp only at A B C
    have HA : Hid _ := A
    have HB : Hid _ := B
    have HC : Hid _ := C
    clear A B C
    generalize hx : pm 1 p = x at *
    clear hx
    cases h7 : (bits .andNot .u8 (p : Int) 7 == 0)
    · go_enter Tryz.func197, Tryz.ntmps197
      go_wp2
      go_ret
      exact ⟨ret_bool (HA.out h7).symm, rfl⟩
    · cases h2 : (bits .and .u8 (p : Int) 2 == 0)
      · go_enter Tryz.func197, Tryz.ntmps197
        go_wp2
        go_ret
        exact ⟨ret_bool (HB.out h7 h2), rfl⟩
      · go_enter Tryz.func197, Tryz.ntmps197
        go_wp2
        go_ret
        exact ⟨ret_bool (HC.out h7 h2), rfl⟩
  · rw [pm_other h]
    have hk : (k == 1) = false := by simpa using h
    go_enter Tryz.func197, Tryz.ntmps197
    go_wp2
    go_ret
    exact ⟨rfl, rfl⟩

theorem fm_zero (f : Nat) : fm 0 f = ((f : Int) == 0) := by
  simp only [fm, if_true]
  cases f <;> rfl
theorem fm_other {k : Int} (h : k ≠ 0) (f : Nat) : fm k f = decide ((f : Int) < 4096) := by
  unfold fm
  rw [if_neg h]
  exact decide_eq_decide.2 (by omega)
theorem frameMayBe_any (w : World) (k : Int) (f : Nat) :
    Calls Tryz.prog 198 #[.int .i64 k, .int .u32 f] w fun e w' => e = .returned (.bool (fm k f)) ∧ w' = w := by
  by_cases h : k = 0
  · subst h
    rw [fm_zero]
    go_enter Tryz.func198, Tryz.ntmps198
    go_wp2
    go_ret
    exact ⟨rfl, rfl⟩
  · rw [fm_other h]
    have hk : (k == 0) = false := by simpa using h
    go_enter Tryz.func198, Tryz.ntmps198
    go_wp2
    go_ret
    exact ⟨rfl, rfl⟩

theorem check_any (w : World) (k : Int) (p f : Nat) (hp : p < 256) :
    Calls Tryz.prog 179 #[.agg #[.int .i64 k, .int .u8 p, .int .u32 f]] w fun e w' => e = .returned (.int .i64 (ck k p f)) ∧ Kp w w' := by
  have hP : ∀ w, Calls Tryz.prog 197 #[.int .i64 k, .int .u8 p] w fun e w' => e = .returned (.bool (pm k p)) ∧ w' = w := fun w => permMayBe_any w k p hp
  have hF : ∀ w, Calls Tryz.prog 198 #[.int .i64 k, .int .u32 f] w fun e w' => e = .returned (.bool (fm k f)) ∧ w' = w := fun w => frameMayBe_any w k f
  have HC : Hid (ck k p f = if k < 0 ∨ 2 < k then 40 else if pm k p = false then 41 else if fm k f = false then 42 else 0) := rfl
  generalize ck k p f = r at *
  generalize pm k p = a at *
  generalize fm k f = b at *
  by_cases h1 : k < 0
  · go_enter Tryz.func179, Tryz.ntmps179
    go_wp2
    go_ret
    exact ⟨ret_int (by rw [HC.out, if_pos (.inl h1)]), by repeat (first | exact Chg.refl _ _ | apply Chg.drew | apply Chg.alloc)⟩
  · by_cases h2 : 2 < k
    · go_enter Tryz.func179, Tryz.ntmps179
      go_wp2
      go_ret
      exact ⟨ret_int (by rw [HC.out, if_pos (.inr h2)]), by repeat (first | exact Chg.refl _ _ | apply Chg.drew | apply Chg.alloc)⟩
    · cases a
      · go_enter Tryz.func179, Tryz.ntmps179
        go_wp2_with (go_at_call 197; refine (hP _).mono ?_; rintro e w1 ⟨rfl, rfl⟩)
        go_ret
        exact ⟨ret_int (by rw [HC.out, if_neg (by omega)]; simp), by repeat (first | exact Chg.refl _ _ | apply Chg.drew | apply Chg.alloc)⟩
      · cases b
        · go_enter Tryz.func179, Tryz.ntmps179
          go_wp2_with (first | (go_at_call 197; refine (hP _).mono ?_; rintro e w1 ⟨rfl, rfl⟩) | (go_at_call 198; refine (hF _).mono ?_; rintro e w1 ⟨rfl, rfl⟩))
          go_ret
          exact ⟨ret_int (by rw [HC.out, if_neg (by omega)]; simp), by repeat (first | exact Chg.refl _ _ | apply Chg.drew | apply Chg.alloc)⟩
        · go_enter Tryz.func179, Tryz.ntmps179
          go_wp2_with (first | (go_at_call 197; refine (hP _).mono ?_; rintro e w1 ⟨rfl, rfl⟩) | (go_at_call 198; refine (hF _).mono ?_; rintro e w1 ⟨rfl, rfl⟩))
          go_ret
          exact ⟨ret_int (by rw [HC.out, if_neg (by omega)]; simp), by repeat (first | exact Chg.refl _ _ | apply Chg.drew | apply Chg.alloc)⟩
end Ent
end Go.Proofs.YtfolnmmlhknmiaaGreatDoor
