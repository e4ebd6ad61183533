import Derived.Test.YtjmcimhklmfofaaDoorKn
import Derived.Test.YtjmcimhklmfofaaDoorFm
namespace Go.Proofs.YtjmcimhklmfofaaDoor
open Go.ChangeShapes Go.WideShapes Go.ChangeAt Go.RowKit
set_option linter.unusedVariables false

/-- The table of permissions lies where it was laid. -/
structure Pt (w : World) : Prop where
  a0 : w.cell? ⟨0, 0, none⟩ = some (.int .u8 0)
  a1 : w.cell? ⟨0, 1, none⟩ = some (.int .u8 1)
  a2 : w.cell? ⟨0, 2, none⟩ = some (.int .u8 2)
  a3 : w.cell? ⟨0, 3, none⟩ = some (.int .u8 4)
theorem Pt.kp {w w' : World} (h : Pt w) (k : Kp w w') : Pt w' := ⟨Kp.cell k h.a0, Kp.cell k h.a1, Kp.cell k h.a2, Kp.cell k h.a3⟩

theorem and_t0 : ∀ p : Fin 256, (bits .and .u8 (p.val : Int) 0 != 0) = false := by decide +kernel
theorem and_t1 : ∀ p : Fin 256, (bits .and .u8 (p.val : Int) 1 != 0) = (p.val % 2 == 1) := by decide +kernel
theorem and_t2 : ∀ p : Fin 256, (bits .and .u8 (p.val : Int) 2 != 0) = (p.val / 2 % 2 == 1) := by decide +kernel
theorem and_t4 : ∀ p : Fin 256, (bits .and .u8 (p.val : Int) 4 != 0) = (p.val / 4 % 2 == 1) := by decide +kernel
/-- Is an access let by? -/
def alw (p : Nat) (a : Int) : Bool := if a = 1 then p % 2 == 1 else if a = 2 then p / 2 % 2 == 1 else if a = 3 then p / 4 % 2 == 1 else false

theorem Allows_any (w : World) (hP : Pt w) (p : Nat) (hp : p < 256) (a : Int) (ha : InI a) : Calls Tryd.prog 15 #[.int .u8 p, .int .i64 a] w fun e w' => e = .returned (.bool (alw p a)) ∧ w' = w := by
  obtain ⟨i1, i2⟩ := ha
  by_cases h1 : a < 0
  · rw [show alw p a = false by simp only [alw]; rw [if_neg (by omega), if_neg (by omega), if_neg (by omega)]]
    go_enter Tryd.func15, Tryd.ntmps15
    go_wp2
    go_ret
    exact ⟨rfl, rfl⟩
  by_cases h2 : 4 ≤ a
  · rw [show alw p a = false by simp only [alw]; rw [if_neg (by omega), if_neg (by omega), if_neg (by omega)]]
    go_enter Tryd.func15, Tryd.ntmps15
    go_wp2
    go_ret
    exact ⟨rfl, rfl⟩
  obtain ⟨a0, a1, a2, a3⟩ := hP
  rcases (show a = 0 ∨ a = 1 ∨ a = 2 ∨ a = 3 by omega) with rfl | rfl | rfl | rfl
  · have H : Hid _ := and_t0 ⟨p, hp⟩
    rw [show alw p 0 = false from rfl]
    go_enter Tryd.func15, Tryd.ntmps15
    go_wp2
    go_ret
    exact ⟨ret_bool H.out, rfl⟩
  · have H : Hid _ := and_t1 ⟨p, hp⟩
    rw [show alw p 1 = (p % 2 == 1) from rfl]
    go_enter Tryd.func15, Tryd.ntmps15
    go_wp2
    go_ret
    exact ⟨ret_bool H.out, rfl⟩
  · have H : Hid _ := and_t2 ⟨p, hp⟩
    rw [show alw p 2 = (p / 2 % 2 == 1) from rfl]
    go_enter Tryd.func15, Tryd.ntmps15
    go_wp2
    go_ret
    exact ⟨ret_bool H.out, rfl⟩
  · have H : Hid _ := and_t4 ⟨p, hp⟩
    rw [show alw p 3 = (p / 4 % 2 == 1) from rfl]
    go_enter Tryd.func15, Tryd.ntmps15
    go_wp2
    go_ret
    exact ⟨ret_bool H.out, rfl⟩

theorem beq_nat (x : Nat) : (((x : Nat) : Int) == 1) = (x == 1) := by
  rw [Bool.eq_iff_iff]
  simp only [beq_iff_eq]
  omega
theorem refAllows_any (w : World) (p : Nat) (hp : p < 256) (a : Int) : Calls Tryd.prog 16 #[.int .u8 p, .int .i64 a] w fun e w' => e = .returned (.bool (alw p a)) ∧ w' = w := by
  by_cases h1 : a = 1
  · subst h1
    rw [show alw p 1 = (((p % 2 : Nat) : Int) == 1) from (beq_nat _).symm]
    go_enter Tryd.func16, Tryd.ntmps16
    go_wp2
    go_ret
    exact ⟨rfl, rfl⟩
  have b1 : (a == 1) = false := by simpa using h1
  by_cases h2 : a = 2
  · subst h2
    rw [show alw p 2 = (((p / 2 % 2 : Nat) : Int) == 1) from (beq_nat _).symm]
    go_enter Tryd.func16, Tryd.ntmps16
    go_wp2
    go_ret
    exact ⟨rfl, rfl⟩
  have b2 : (a == 2) = false := by simpa using h2
  by_cases h3 : a = 3
  · subst h3
    rw [show alw p 3 = (((p / 4 % 2 : Nat) : Int) == 1) from (beq_nat _).symm]
    go_enter Tryd.func16, Tryd.ntmps16
    go_wp2
    go_ret
    exact ⟨rfl, rfl⟩
  have b3 : (a == 3) = false := by simpa using h3
  rw [show alw p a = false by simp [alw, h1, h2, h3]]
  go_enter Tryd.func16, Tryd.ntmps16
  go_wp2
  go_ret
  exact ⟨rfl, rfl⟩

theorem allows_walk (w : World) (hG : Gw w) (hP : Pt w) (p : Nat) (hp : p < 256) (a : Int) (ha : InI a) : Calls Tryd.prog 7 #[.int .u8 p, .int .i64 a] w fun e w' => e = .returned (.bool true) ∧ Kp w w' := by
  have hK := known_any w hG
  have cA : ∀ V, Kp w V → Calls Tryd.prog 15 #[.int .u8 p, .int .i64 a] V fun e w' => e = .returned (.bool (alw p a)) ∧ w' = V := fun V hV => Allows_any V (hP.kp hV) p hp a ha
  have cR : ∀ V, Calls Tryd.prog 16 #[.int .u8 p, .int .i64 a] V fun e w' => e = .returned (.bool (alw p a)) ∧ w' = V := fun V => refAllows_any V p hp a
  generalize alw p a = r at *
  cases r
  all_goals (
    go_enter Tryd.func7, Tryd.ntmps7
    go_wp2_with fail
    go_at_call 9
    refine hK.mono ?_
    rintro e w1 ⟨rfl, k1⟩
    go_wp2_with fail
    go_at_call 15
    refine (cA _ k1).mono ?_
    rintro e w2 ⟨rfl, rfl⟩
    go_wp2_with fail
    go_at_call 16
    refine (cR _).mono ?_
    rintro e w3 ⟨rfl, rfl⟩
    go_wp2_with fail
    go_ret
    exact ⟨rfl, k1⟩)

theorem gPt : Tryd.prog.globalNamed "cloister/entry.permOf" = some 0 := by kernel_rfl
theorem tPt : (Tryd.prog.globals[0]?).map (·.type) = some 51 := by kernel_rfl
theorem cells51 : Tryd.prog.cellsOf 51 = 4 := by kernel_rfl
theorem cells25' : Tryd.prog.cellsOf 25 = 1 := by kernel_rfl
theorem perm_of_laid {a b c d e : String × DataW Unit} {W : World} (h : laidMet Tryd.prog [a, b, c, d, e, ("cloister/entry.permOf", Rows.laid_cloister_entry_permOf)] W) : Pt W := by
  have h5 := laidMet.tail (laidMet.tail (laidMet.tail (laidMet.tail (laidMet.tail h))))
  have hT := Lib.tabIs_of_head (zs := [0, 1, 2, 4]) (k := .u8) gPt tPt Tryd.underlying51 Tryd.underlying25 cells25' cells51 h5
  exact ⟨hT.cell gPt 0 (by decide), hT.cell gPt 1 (by decide), hT.cell gPt 2 (by decide), hT.cell gPt 3 (by decide)⟩
end Go.Proofs.YtjmcimhklmfofaaDoor
