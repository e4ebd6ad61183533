import Derived.Test.YtkndlkcbhpfjoaaBc
namespace Go.Proofs.Ytkndlkcbhpfjoaa
open Go.ChangeShapes Go.WideShapes Go.ChangeAt Go.RowKit
set_option linter.unusedVariables false
set_option maxHeartbeats 2000000 in
theorem raise_ok (w : World) (B : Nat) (s : GS) (h : IsG w B s) (l : Nat) (hl : l < 32) :
    Calls Try.prog 12 #[.pointer (some ⟨B, 0, none⟩), .int .i64 (l : Nat)] w fun e w' => e = .returned (.tuple #[.bool (s.rz l), .int .i64 0]) ∧ IsG w' B (s.raise l) ∧ Chg w w' (fun k => k = B) := by
  have hL := isLine_any w (l : Int)
  have e0 : (decide (0 ≤ (l : Int)) && decide ((l : Int) < 32)) = true := by simp; omega
  rw [e0] at hL
  have hd := h.kp (Chg.refl w _).drew
  have hO : Calls Try.prog 31 #[.int .i64 (l : Nat)] w.drew fun e w' => e = .returned (.int .u32 (sw (fun i => i == l) : Nat)) ∧ w' = w.drew := only_any w.drew l hl
  have cr := h.rt l hl
  have c1 := h.pe
  have dr := hd.rt l hl
  have d1 := hd.pe
  have hlz : (l : Int) < 32 := by omega
  have eb := bit_ne s.pe l hl
  by_cases h0 : s.rt l = 0
  · have hz : s.rz l = false := by simp [GS.rz, h0]
    have HN : Hid (IsG w.drew B (s.raise l)) := by unfold Hid IsG; rw [s.raise_no l hz]; exact hd
    rw [hz]
    rw [h0] at cr dr
    change w.cell? ⟨B, l, none⟩ = some (.int .i64 0) at cr
    change w.drew.cell? ⟨B, l, none⟩ = some (.int .i64 0) at dr
    clear h hd h0 eb
    go_enter Try.func12, Try.ntmps12
    go_wp2_with fail
    go_at_call 30
    refine hL.mono ?_
    rintro e w1 ⟨rfl, rfl⟩
    clear hL
    go_upto_region 3 with fail
    go_quiet (fail)
    go_wp2
    go_ret2
    exact ⟨rfl, HN.out, (Chg.refl _ _).drewN _⟩
  · have h0z : ¬ ((s.rt l : Int) = 0) := by omega
    have h0b : ((s.rt l : Int) == 0) = false := by simpa using h0
    cases hp : s.pe l with
    | true =>
      have hz : s.rz l = false := by simp [GS.rz, hp]
      have HN : Hid (IsG w.drew B (s.raise l)) := by unfold Hid IsG; rw [s.raise_no l hz]; exact hd
      rw [hz]
      rw [hp] at eb
      simp only [Bool.not_true] at eb
      clear h hd hp hz
      go_enter Try.func12, Try.ntmps12
      go_wp2_with fail
      go_at_call 30
      refine hL.mono ?_
      rintro e w1 ⟨rfl, rfl⟩
      clear hL
      go_upto_region 3 with fail
      go_region_held3 (fun w' => w'.cell? ⟨B, l, none⟩ = some (.int .i64 (s.rt l : Nat)) ∧ w'.cell? ⟨B, 32, none⟩ = some (.int .u32 (sw s.pe : Nat))) (exact ⟨by assumption, by assumption⟩) (first | (go_at_call 31; with_reducible refine hO.mono ?_; rintro e wz ⟨rfl, hwz⟩; rw [hwz]; clear hwz) | fail)
      go_wp2
      go_ret2
      exact ⟨rfl, HN.out, (Chg.refl _ _).drew⟩
    | false =>
      have hz : s.rz l = true := by simp [GS.rz, hp, h0]
      have hd2 := h.kp ((Chg.refl w _).drew.drew)
      have HN : Hid (IsG (w.drew.drew.setCell ⟨B, 32, none⟩ (.int .u32 (sw (fun i => s.pe i || i == l) : Nat))) B (s.raise l)) := by
        have := hd2.setPe (fun i => s.pe i || i == l)
        have e : s.raise l = ⟨s.rt, fun i => s.pe i || i == l, s.ma⟩ := by unfold GS.raise; rw [hz]; simp
        rw [e]; exact this
      have hO2 : Calls Try.prog 31 #[.int .i64 (l : Nat)] w.drew.drew fun e w' => e = .returned (.int .u32 (sw (fun i => i == l) : Nat)) ∧ w' = w.drew.drew := only_any w.drew.drew l hl
      have f1 := hd.fr 32
      have c3 := hd2.pe
      have f3 := hd2.fr 32
      have eo := sw_or s.pe (fun i => i == l)
      rw [hz]
      rw [hp] at eb
      simp only [Bool.not_false] at eb
      clear h hd hp hz hd2
      go_enter Try.func12, Try.ntmps12
      go_wp2_with fail
      go_at_call 30
      refine hL.mono ?_
      rintro e w1 ⟨rfl, rfl⟩
      clear hL
      go_upto_region 3 with fail
      go_region_held3 (fun w' => w'.cell? ⟨B, l, none⟩ = some (.int .i64 (s.rt l : Nat)) ∧ w'.cell? ⟨B, 32, none⟩ = some (.int .u32 (sw s.pe : Nat))) (exact ⟨by assumption, by assumption⟩) (first | (go_at_call 31; with_reducible refine hO.mono ?_; rintro e wz ⟨rfl, hwz⟩; rw [hwz]; clear hwz) | fail)
      go_upto_region 5 with fail
      go_region_with (go_at_call 31; with_reducible refine hO2.mono ?_; rintro e wz ⟨rfl, hwz⟩; rw [hwz]; clear hwz)
      all_goals (try go_wp2)
      all_goals go_ret2
      all_goals exact ⟨rfl, HN.out, Chg.setCell (S := fun k => k = B) (Chg.refl _ _).drew.drew (.inl rfl) _⟩
end Go.Proofs.Ytkndlkcbhpfjoaa
