import Derived.Test.YtfolnmmlhknmiaaGreatDoorEd
namespace Go.Proofs.YtfolnmmlhknmiaaGreatDoor
namespace Ent
open Go.ChangeShapes Go.WideShapes Go.ChangeAt Go.RowKit
set_option linter.unusedVariables false

/-- The table of permissions lies where it was laid. -/
structure Pt (w : World) : Prop where
  a0 : w.cell? ⟨0, 0, none⟩ = some (.int .u8 0)
  a1 : w.cell? ⟨0, 1, none⟩ = some (.int .u8 1)
  a2 : w.cell? ⟨0, 2, none⟩ = some (.int .u8 2)
  a3 : w.cell? ⟨0, 3, none⟩ = some (.int .u8 4)
theorem Pt.kp {w w' : World} (h : Pt w) (k : Kp w w') : Pt w' := ⟨Kp.cell k h.a0, Kp.cell k h.a1, Kp.cell k h.a2, Kp.cell k h.a3⟩

theorem and_t0 : ∀ p : Fin 256, (bits .and .u8 (p.val : Int) 0 != 0) = false := by decide +kernel
theorem and_t1 : ∀ p : Fin 256, (bits .and .u8 (p.val : Int) 1 != 0) = (p.val % 2 == 1) := by decide +kernel
theorem and_t2 : ∀ p : Fin 256, (bits .and .u8 (p.val : Int) 2 != 0) = (p.val / 2 % 2 == 1) := by decide +kernel
theorem and_t4 : ∀ p : Fin 256, (bits .and .u8 (p.val : Int) 4 != 0) = (p.val / 4 % 2 == 1) := by decide +kernel
/-- Is an access let by? -/
def alw (p : Nat) (a : Int) : Bool := if a = 1 then p % 2 == 1 else if a = 2 then p / 2 % 2 == 1 else if a = 3 then p / 4 % 2 == 1 else false

theorem Allows_any (w : World) (hP : Pt w) (p : Nat) (hp : p < 256) (a : Int) (ha : InI a) : Calls Tryz.prog 155 #[.int .u8 p, .int .i64 a] w fun e w' => e = .returned (.bool (alw p a)) ∧ w' = w := by
  obtain ⟨i1, i2⟩ := ha
  by_cases h1 : a < 0
  · rw [show alw p a = false by simp only [alw]; rw [if_neg (by omega), if_neg (by omega), if_neg (by omega)]]
    go_enter Tryz.func155, Tryz.ntmps155
    go_wp2
    go_ret
    exact ⟨rfl, rfl⟩
  by_cases h2 : 4 ≤ a
  · rw [show alw p a = false by simp only [alw]; rw [if_neg (by omega), if_neg (by omega), if_neg (by omega)]]
    go_enter Tryz.func155, Tryz.ntmps155
    go_wp2
    go_ret
    exact ⟨rfl, rfl⟩
  obtain ⟨a0, a1, a2, a3⟩ := hP
  rcases (show a = 0 ∨ a = 1 ∨ a = 2 ∨ a = 3 by omega) with rfl | rfl | rfl | rfl
  · have H : Hid _ := and_t0 ⟨p, hp⟩
    rw [show alw p 0 = false from rfl]
    go_enter Tryz.func155, Tryz.ntmps155
    go_wp2
    go_ret
    exact ⟨ret_bool H.out, rfl⟩
  · have H : Hid _ := and_t1 ⟨p, hp⟩
    rw [show alw p 1 = (p % 2 == 1) from rfl]
    go_enter Tryz.func155, Tryz.ntmps155
    go_wp2
    go_ret
    exact ⟨ret_bool H.out, rfl⟩
  · have H : Hid _ := and_t2 ⟨p, hp⟩
    rw [show alw p 2 = (p / 2 % 2 == 1) from rfl]
    go_enter Tryz.func155, Tryz.ntmps155
    go_wp2
    go_ret
    exact ⟨ret_bool H.out, rfl⟩
  · have H : Hid _ := and_t4 ⟨p, hp⟩
    rw [show alw p 3 = (p / 4 % 2 == 1) from rfl]
    go_enter Tryz.func155, Tryz.ntmps155
    go_wp2
    go_ret
    exact ⟨ret_bool H.out, rfl⟩

theorem beq_nat (x : Nat) : (((x : Nat) : Int) == 1) = (x == 1) := by
  rw [Bool.eq_iff_iff]
  simp only [beq_iff_eq]
  omega
theorem refAllows_any (w : World) (p : Nat) (hp : p < 256) (a : Int) : Calls Tryz.prog 109 #[.int .u8 p, .int .i64 a] w fun e w' => e = .returned (.bool (alw p a)) ∧ w' = w := by
  by_cases h1 : a = 1
  · subst h1
    rw [show alw p 1 = (((p % 2 : Nat) : Int) == 1) from (beq_nat _).symm]
    go_enter Tryz.func109, Tryz.ntmps109
    go_wp2
    go_ret
    exact ⟨rfl, rfl⟩
  have b1 : (a == 1) = false := by simpa using h1
  by_cases h2 : a = 2
  · subst h2
    rw [show alw p 2 = (((p / 2 % 2 : Nat) : Int) == 1) from (beq_nat _).symm]
    go_enter Tryz.func109, Tryz.ntmps109
    go_wp2
    go_ret
    exact ⟨rfl, rfl⟩
  have b2 : (a == 2) = false := by simpa using h2
  by_cases h3 : a = 3
  · subst h3
    rw [show alw p 3 = (((p / 4 % 2 : Nat) : Int) == 1) from (beq_nat _).symm]
    go_enter Tryz.func109, Tryz.ntmps109
    go_wp2
    go_ret
    exact ⟨rfl, rfl⟩
  have b3 : (a == 3) = false := by simpa using h3
  rw [show alw p a = false by simp [alw, h1, h2, h3]]
  go_enter Tryz.func109, Tryz.ntmps109
  go_wp2
  go_ret
  exact ⟨rfl, rfl⟩


end Ent
end Go.Proofs.YtfolnmmlhknmiaaGreatDoor
