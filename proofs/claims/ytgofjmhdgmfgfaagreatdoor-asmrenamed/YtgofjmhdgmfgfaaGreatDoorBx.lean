import Derived.Test.YtgofjmhdgmfgfaaGreatDoorBb
namespace Go.Proofs.YtgofjmhdgmfgfaaGreatDoor
open Go.ChangeShapes Go.WideShapes Go.ChangeAt Go.RowKit
set_option linter.unusedVariables false

/-- Digits, from the last one on. -/
def e8 : Nat → Nat → List UInt8 → List UInt8
  | 0, _, s => s
  | k + 1, n, s => e8 k (n / 16) (hx (n % 16) :: s)
theorem e8_app (k : Nat) : ∀ n s, e8 k n s = e8 k n [] ++ s := by
  induction k with
  | zero => intro n s; rfl
  | succ k ih => intro n s; simp only [e8]; rw [ih _ (_ :: s), ih _ [_]]; simp
theorem repL_succ (k : Nat) : Lib.repeatL ([48] : List UInt8) (k + 1) = Lib.repeatL [48] k ++ [48] := by
  induction k with
  | zero => rfl
  | succ k ih => 
    have h : ∀ k, Lib.repeatL ([48] : List UInt8) (k + 1) = [48] ++ Lib.repeatL [48] k := fun k => rfl
    rw [h (k + 1), ih, ← List.append_assoc, ← h k, ih]
theorem e8_zero (k : Nat) : e8 k 0 [] = Lib.repeatL [48] k := by
  induction k with
  | zero => rfl
  | succ k ih => simp only [e8]; rw [e8_app, show (0 : Nat) / 16 = 0 from rfl, ih, repL_succ]; rfl
theorem e8_hexd (k : Nat) : ∀ u, u < 16 ^ (k + 1) → e8 (k + 1) u [] = Lib.repeatL [48] (k + 1 - (hexd u).length) ++ hexd u := by
  induction k with
  | zero =>
    intro u h
    have h1 : u < 16 := by simpa using h
    rw [hexd_lt h1]
    simp only [e8, Nat.mod_eq_of_lt h1]
    rfl
  | succ k ih =>
    intro u h
    by_cases h1 : u < 16
    · rw [hexd_lt h1]
      simp only [e8, Nat.mod_eq_of_lt h1, Nat.div_eq_of_lt h1]
      have h0 : e8 k (0 / 16) [hx (0 % 16)] = Lib.repeatL [48] (k + 1) := by
        rw [← e8_zero (k + 1)]; rfl
      rw [e8_app] at h0
      rw [e8_app, show ([hx (0 % 16), hx u] : List UInt8) = [hx (0 % 16)] ++ [hx u] from rfl, ← List.append_assoc, h0]
      simp
    · have h2 : u / 16 < 16 ^ (k + 1) := by
        rw [Nat.pow_succ] at h
        exact Nat.div_lt_of_lt_mul (by rw [Nat.mul_comm]; exact h)
      rw [hexd_ge h1, e8, e8_app, ih _ h2]
      simp
theorem e8_hex8 (u : Nat) (h : u < 4294967296) : [48, 120] ++ e8 8 u [] = hex8 u := by
  rw [e8_hexd 7 u (by simpa using h)]
  simp [hex8]
theorem e8_len (k : Nat) : ∀ n s, (e8 k n s).length = k + s.length := by
  induction k with
  | zero => intro n s; simp [e8]
  | succ k ih => intro n s; simp only [e8]; rw [ih]; simp; omega
end Go.Proofs.YtgofjmhdgmfgfaaGreatDoor
