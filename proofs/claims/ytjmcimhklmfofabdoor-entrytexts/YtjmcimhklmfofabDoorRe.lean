import Derived.Test.YtjmcimhklmfofabDoorPu
import Derived.Test.YtjmcimhklmfofabDoorSo
namespace Go.Proofs.YtjmcimhklmfofabDoor
open Go.ChangeShapes Go.WideShapes Go.ChangeAt Go.RowKit
set_option linter.unusedVariables false

/-- The library's error lies where it was laid. -/
def Es (w : World) : Prop := ∃ te pe, w.cell? ⟨1, 0, none⟩ = some (.iface te pe)
theorem Es.kp {w w' : World} (h : Es w) (k : Kp w w') : Es w' := by
  obtain ⟨te, pe, h⟩ := h
  exact ⟨te, pe, Kp.cell k h⟩

set_option maxRecDepth 100000 in
theorem ParseUint_any (a b c : UInt8) (w : World) (hE : Es w) : Calls Tryd.prog 26 #[.string ⟨#[a, b, c]⟩, .int .i64 16, .int .i64 32] w fun e w' => ∃ v, e = .returned (.tuple #[.int .u64 (rf [a, b, c] : Nat), v]) ∧ Kp w w' := by
  have hP := parse_any a b c w
  unfold rf
  cases hr : hvs 0 [a, b, c] with
  | some n =>
    rw [hr] at hP
    simp only [puV] at hP
    clear hr
    rw [Option.getD_some]
    go_enter Tryd.func26, Tryd.ntmps26
    go_wp2_with (go_at_call 35; refine hP.mono ?_; rintro e w1 ⟨rfl, k1⟩)
    go_ret2
    exact ⟨_, rfl, k1⟩
  | none =>
    rw [hr] at hP
    simp only [puV] at hP
    clear hr
    rw [Option.getD_none]
    have hT : ∀ V, Kp w V → ∀ fn x y, Calls Tryd.prog 36 #[.string fn, .string ⟨#[a, b, c]⟩, .int .i64 x, .int .i64 y, .iface 85 (.int .i64 2)] V fun e w' => ∃ N, e = .returned (.iface 87 (.pointer (some ⟨N, 0, none⟩))) ∧ Kp w w' := by
      intro V hV fn x y
      obtain ⟨te, pe, hv⟩ := hE.kp hV
      exact (toError_any fn a b c V te pe hv x y).mono fun e w' ⟨N, he, hk⟩ => ⟨N, he, Kp.trans hV hk⟩
    go_enter Tryd.func26, Tryd.ntmps26
    go_wp2_with (go_at_call 35; refine hP.mono ?_; rintro e w1 ⟨rfl, k1⟩)
    go_wp2_with (go_at_call 36; refine (hT _ k1 _ _ _).mono ?_; rintro e w2 ⟨N, rfl, k2⟩)
    go_ret2
    exact ⟨_, rfl, k2⟩

set_option maxRecDepth 100000 in
theorem readFrame_any (a b c : UInt8) (w : World) (hE : Es w) : Calls Tryd.prog 18 #[.string ⟨#[a, b, c]⟩] w fun e w' => e = .returned (.int .u32 (rf [a, b, c] : Nat)) ∧ Kp w w' := by
  have hP := ParseUint_any a b c w hE
  have hl := rf_lt [a, b, c] (by simp)
  generalize rf [a, b, c] = n at *
  go_enter Tryd.func18, Tryd.ntmps18
  go_wp2_with (go_at_call 26; refine hP.mono ?_; rintro e w1 ⟨v, rfl, k1⟩)
  go_ret
  exact ⟨rfl, k1⟩

def rpB (x y z : Bool) : Nat := (if x then 1 else 0) + (if y then 2 else 0) + (if z then 4 else 0)
theorem rp_B (a b c : UInt8) : rp a b c = rpB ((a.toNat : Int) == 114) ((b.toNat : Int) == 119) ((c.toNat : Int) == 120) := by
  have e : ∀ (x y : UInt8), ((x.toNat : Int) == (y.toNat : Int)) = decide (x = y) := by
    intro x y
    rw [Bool.eq_iff_iff]
    simp only [beq_iff_eq, decide_eq_true_eq]
    constructor
    · intro h
      exact UInt8.toNat_inj.1 (by omega)
    · intro h
      rw [h]
  unfold rp rpB
  rw [show (114 : Int) = ((114 : UInt8).toNat : Int) from rfl, show (119 : Int) = ((119 : UInt8).toNat : Int) from rfl, show (120 : Int) = ((120 : UInt8).toNat : Int) from rfl, e, e, e]
  simp only [decide_eq_true_eq]

set_option maxRecDepth 100000 in
set_option maxHeartbeats 4000000 in
theorem readPerm_any (a b c : UInt8) (w : World) : Calls Tryd.prog 19 #[.string ⟨#[a, b, c]⟩] w fun e w' => e = .returned (.int .u8 (rp a b c : Nat)) ∧ Kp w w' := by
  rw [rp_B]
  have o1 : bits .or .u8 0 1 = 1 := by decide +kernel
  have o2 : bits .or .u8 0 2 = 2 := by decide +kernel
  have o3 : bits .or .u8 1 2 = 3 := by decide +kernel
  have o4 : bits .or .u8 0 4 = 4 := by decide +kernel
  have o5 : bits .or .u8 1 4 = 5 := by decide +kernel
  have o6 : bits .or .u8 2 4 = 6 := by decide +kernel
  have o7 : bits .or .u8 3 4 = 7 := by decide +kernel
  have i0 : ∀ h, (({ data := #[a, b, c] } : ByteArray)[0]'h) = a := fun _ => rfl
  have i1 : ∀ h, (({ data := #[a, b, c] } : ByteArray)[1]'h) = b := fun _ => rfl
  have i2 : ∀ h, (({ data := #[a, b, c] } : ByteArray)[2]'h) = c := fun _ => rfl
  have j0 : ∀ h, (((({ data := #[114, 119, 120] } : ByteArray)[0]'h).toNat : Nat) : Int) = 114 := fun _ => rfl
  have j1 : ∀ h, (((({ data := #[114, 119, 120] } : ByteArray)[1]'h).toNat : Nat) : Int) = 119 := fun _ => rfl
  have j2 : ∀ h, (((({ data := #[114, 119, 120] } : ByteArray)[2]'h).toNat : Nat) : Int) = 120 := fun _ => rfl
  cases hx : ((a.toNat : Int) == 114) <;> cases hy : ((b.toNat : Int) == 119) <;> cases hz : ((c.toNat : Int) == 120)
  all_goals (
    go_enter Tryd.func19, Tryd.ntmps19
    go_wp2
    refine wp_loop_rounds 4 ?_
    rw [rounds_succ]
    go_wp2
    go_quiet (fail)
    go_wp2
    rw [rounds_succ]
    go_wp2
    go_quiet (fail)
    go_wp2
    rw [rounds_succ]
    go_wp2
    go_quiet (fail)
    go_wp2
    rw [rounds_succ]
    go_wp2
    go_ret
    exact ⟨rfl, by repeat (first | exact Chg.refl _ _ | apply Chg.drew | apply Chg.drewN)⟩)
end Go.Proofs.YtjmcimhklmfofabDoor
