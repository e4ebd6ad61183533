import Derived.Test.YtghiffpolacmiabDoorUa
import Derived.Deep.MidRow
namespace Go.Proofs.YtghiffpolacmiabDoor
open Go.ChangeShapes Go.WideShapes Go.ChangeAt Go.RowKit
set_option linter.unusedVariables false

/-- The set of one register; 0 is in none. -/
def on1 (r : Nat) : Nat := if r = 0 then 0 else 2 ^ r
theorem on1_lt {r : Nat} (h : r < 16) : on1 r < 65536 := by
  have : ∀ r : Fin 16, on1 r.val < 65536 := by decide +kernel
  exact this ⟨r, h⟩
theorem only_any (w : World) (r : Nat) (hr : r < 16) : Calls Tryd.prog 14 #[.int .u8 r] w fun e w' => e = .returned (.int .u16 (on1 r : Nat)) ∧ w' = w := by
  have h : r = 0 ∨ r = 1 ∨ r = 2 ∨ r = 3 ∨ r = 4 ∨ r = 5 ∨ r = 6 ∨ r = 7 ∨ r = 8 ∨ r = 9 ∨ r = 10 ∨ r = 11 ∨ r = 12 ∨ r = 13 ∨ r = 14 ∨ r = 15 := by omega
  clear hr
  rcases h with rfl | rfl | rfl | rfl | rfl | rfl | rfl | rfl | rfl | rfl | rfl | rfl | rfl | rfl | rfl | rfl
  all_goals
    go_enter Tryd.func14, Tryd.ntmps14
    go_wp2
    go_ret
    exact ⟨ret_int (by decide), rfl⟩
def uR (op : Int) (d a b : Nat) (n : Int) : Int := if ck op d a b n = 0 then (if op = 40 then 126 else bits .or .u16 (on1 a : Nat) (on1 b : Nat)) else 0
def uW (op : Int) (d a b : Nat) (n : Int) : Int := if ck op d a b n = 0 then (if op = 40 then 14 else (on1 d : Nat)) else 0
theorem rm_lt {r p : Nat} (h : rm r p = true) : r < 16 := by
  unfold rm at h
  split at h
  · have : r = 0 := by simpa using h
    omega
  · simpa using h
theorem ck_regs {op : Int} {d a b : Nat} {n : Int} (h : ck op d a b n = 0) : d < 16 ∧ a < 16 ∧ b < 16 := by
  obtain ⟨_, h1, _⟩ := ck_zero h
  have hm : (rm d (lD (fo op)) = true ∧ rm a (lA (fo op)) = true) ∧ rm b (lB (fo op)) = true := by simpa [rms] using h1
  exact ⟨rm_lt hm.1.1, rm_lt hm.1.2, rm_lt hm.2⟩
theorem Uses_any (w : World) (hg : Gt w) (op : Int) (d a b : Nat) (n : Int) :
    Calls Tryd.prog 6 #[iv op d a b n] w fun e w' => e = .returned (.tuple #[.int .u16 (uR op d a b n), .int .u16 (uW op d a b n)]) ∧ Kp w w' := by
  have hC := fun w h => check_any w h op d a b n
  have hg1 := hg.keep ((Chg.refl w _).alloc (.cells #[.int .i64 op, .int .u8 d, .int .u8 a, .int .u8 b, .int .i32 n] 31))
  by_cases hc : ck op d a b n = 0
  · obtain ⟨h1, h2, h3⟩ := ck_regs hc
    rw [uR, uW, if_pos hc, if_pos hc]
    rw [hc] at hC
    clear hc
    by_cases h40 : op = 40
    · rw [if_pos h40, if_pos h40]
      subst h40
      go_enter Tryd.func6, Tryd.ntmps6
      go_wp2_with (go_at_call 13; refine (hC _ hg1).mono ?_; rintro e w1 ⟨rfl, k1⟩; have g0 := Kp.heap k1 (heap_alloc_new w _); obtain ⟨c0, c1, c2, c3, c4, _⟩ := cells5 g0)
      go_ret2
      exact ⟨rfl, ((Chg.refl _ _).alloc _).trans k1 (fun _ _ h => h)⟩
    · rw [if_neg h40, if_neg h40]
      have hb : (op == 40) = false := by simpa using h40
      have oA := fun w => only_any w a h2
      have oB := fun w => only_any w b h3
      have oD := fun w => only_any w d h1
      generalize on1 a = ra at *
      generalize on1 b = rb at *
      generalize on1 d = rd at *
      clear h1 h2 h3
      generalize (ra : Int) = ra' at *
      generalize (rb : Int) = rb' at *
      generalize (rd : Int) = rd' at *
      generalize (d : Int) = d' at *
      generalize (a : Int) = a' at *
      generalize (b : Int) = b' at *
      go_enter Tryd.func6, Tryd.ntmps6
      go_wp2_with (go_at_call 13; refine (hC _ hg1).mono ?_; rintro e w1 ⟨rfl, k1⟩; have g0 := Kp.heap k1 (heap_alloc_new w _); obtain ⟨c0, c1, c2, c3, c4, _⟩ := cells5 g0)
      go_quiet (first | (go_at_call 14; with_reducible exact Calls.quiet_of_same (oA _)) | (go_at_call 14; with_reducible exact Calls.quiet_of_same (oB _)) | (go_at_call 14; with_reducible exact Calls.quiet_of_same (oD _)) | fail)
      go_wp2
      go_ret2
      exact ⟨rfl, by repeat (first | apply Chg.drewN | exact ((Chg.refl _ _).alloc _).trans k1 (fun _ _ h => h))⟩
  · rw [uR, uW, if_neg hc, if_neg hc]
    have hb : (ck op d a b n == 0) = false := by simpa using hc
    generalize ck op d a b n = c at *
    go_enter Tryd.func6, Tryd.ntmps6
    go_wp2_with (go_at_call 13; refine (hC _ hg1).mono ?_; rintro e w1 ⟨rfl, k1⟩)
    go_ret2
    exact ⟨rfl, ((Chg.refl _ _).alloc _).trans k1 (fun _ _ h => h)⟩
end Go.Proofs.YtghiffpolacmiabDoor
