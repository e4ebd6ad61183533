import Derived.Test.YtoagdcdmahpglaaDoorEd
namespace Go.Proofs.YtoagdcdmahpglaaDoor
namespace Ent
open Go.ChangeShapes Go.WideShapes Go.ChangeAt Go.RowKit
set_option linter.unusedVariables false

set_option maxRecDepth 100000 in
theorem page_any (w : World) (p : Nat) : Calls Tryd.prog 100 #[.int .u8 p] w fun e w' => e = .returned (.bool (pm 1 p)) ∧ w' = w := by
  by_cases h : p = 1 ∨ p = 3 ∨ p = 4 ∨ p = 5 ∨ p = 7
  · rcases h with rfl | rfl | rfl | rfl | rfl
    all_goals (
      rw [show pm 1 _ = true from rfl]
      go_enter Tryd.func100, Tryd.ntmps100
      go_wp2
      go_ret
      exact ⟨rfl, rfl⟩)
  · have e : pm 1 p = false := by simp [pm]; omega
    rw [e]
    have a1 : ((p : Int) == 1) = false := by simp; omega
    have a3 : ((p : Int) == 3) = false := by simp; omega
    have a4 : ((p : Int) == 4) = false := by simp; omega
    have a5 : ((p : Int) == 5) = false := by simp; omega
    have a7 : ((p : Int) == 7) = false := by simp; omega
    clear h e
    go_enter Tryd.func100, Tryd.ntmps100
    go_wp2
    go_ret
    exact ⟨rfl, rfl⟩

/-- The document's Encode, in its ten ways. -/
theorem ew_of {k : Int} {p f : Nat} {c : Int} {x : Int} (hc : ck k p f = c) (hx : (if c = 0 then ((wd k p f : Nat) : Int) else 0) = x) : ew k p f = x := by
  unfold ew
  rw [hc, hx]

set_option maxRecDepth 100000 in
set_option maxHeartbeats 4000000 in
theorem refEncode_any (w : World) (k : Int) (p f : Nat) (hp : p < 256) (hf : f < 4294967296) :
    Calls Tryd.prog 98 #[.agg #[.int .i64 k, .int .u8 p, .int .u32 f]] w fun e w' => e = .returned (.tuple #[.int .u32 (ew k p f), .int .i64 (ck k p f)]) ∧ Kp w w' := by
  have hP : ∀ V, Calls Tryd.prog 100 #[.int .u8 p] V fun e w' => e = .returned (.bool (pm 1 p)) ∧ w' = V := fun V => page_any V p
  by_cases k0 : k = 0
  · subst k0
    by_cases p0 : p = 0
    · subst p0
      by_cases f0 : f = 0
      · subst f0
        rw [show ew 0 0 0 = 0 from rfl, show ck 0 0 0 = 0 from rfl]
        go_enter Tryd.func98, Tryd.ntmps98
        go_wp2
        go_ret2
        exact ⟨rfl, (Chg.refl _ _).alloc _⟩
      · have hc : ck 0 0 f = 42 := by simp [ck, pm, fm, f0]
        rw [ew_of hc rfl, hc]
        have hb : ((f : Int) == 0) = false := by simp; omega
        go_enter Tryd.func98, Tryd.ntmps98
        go_wp2
        go_ret2
        exact ⟨rfl, (Chg.refl _ _).alloc _⟩
    · have hc : ck 0 p f = 41 := by simp [ck, pm, p0]
      rw [ew_of hc rfl, hc]
      have hb : ((p : Int) == 0) = false := by simp; omega
      go_enter Tryd.func98, Tryd.ntmps98
      go_wp2
      go_ret2
      exact ⟨rfl, (Chg.refl _ _).alloc _⟩
  have hk0 : (k == 0) = false := by simpa using k0
  by_cases k1 : k = 1
  · subst k1
    cases hm : pm 1 p
    · rw [hm] at hP
      have hc : ck 1 p f = 41 := by simp [ck, hm]
      rw [ew_of hc rfl, hc]
      clear hm
      go_enter Tryd.func98, Tryd.ntmps98
      go_wp2_with (go_at_call 100; refine (hP _).mono ?_; rintro e w1 ⟨rfl, rfl⟩)
      go_ret2
      exact ⟨rfl, (Chg.refl _ _).alloc _⟩
    · rw [hm] at hP
      by_cases f0 : f ≤ 4095
      · have hc : ck 1 p f = 0 := by simp [ck, hm, fm]; omega
        have hx : ((wd 1 p f : Nat) : Int) = 4096 * f + 2 * p + 1 := by simp [wd]
        rw [ew_of hc rfl, hc, if_pos rfl, hx]
        have hp7 := pm_page hm
        have hp8 : p ≤ 7 := by omega
        clear hm hp7 hx
        go_enter Tryd.func98, Tryd.ntmps98
        go_wp2_with (go_at_call 100; refine (hP _).mono ?_; rintro e w1 ⟨rfl, rfl⟩)
        go_ret2
        exact ⟨rfl, (Chg.refl _ _).alloc _⟩
      · have hc : ck 1 p f = 42 := by simp [ck, hm, fm]; omega
        rw [ew_of hc rfl, hc]
        clear hm
        go_enter Tryd.func98, Tryd.ntmps98
        go_wp2_with (go_at_call 100; refine (hP _).mono ?_; rintro e w1 ⟨rfl, rfl⟩)
        go_ret2
        exact ⟨rfl, (Chg.refl _ _).alloc _⟩
  have hk1 : (k == 1) = false := by simpa using k1
  clear hP
  by_cases k2 : k = 2
  · subst k2
    by_cases p0 : p = 0
    · subst p0
      by_cases f0 : f ≤ 4095
      · have hc : ck 2 0 f = 0 := by simp [ck, pm, fm]; omega
        have hx : ((wd 2 0 f : Nat) : Int) = 4096 * f + 17 := by simp [wd]
        rw [ew_of hc rfl, hc, if_pos rfl, hx]
        clear hx
        go_enter Tryd.func98, Tryd.ntmps98
        go_wp2
        go_ret2
        exact ⟨rfl, (Chg.refl _ _).alloc _⟩
      · have hc : ck 2 0 f = 42 := by simp [ck, pm, fm]; omega
        rw [ew_of hc rfl, hc]
        go_enter Tryd.func98, Tryd.ntmps98
        go_wp2
        go_ret2
        exact ⟨rfl, (Chg.refl _ _).alloc _⟩
    · have hc : ck 2 p f = 41 := by simp [ck, pm, p0]
      rw [ew_of hc rfl, hc]
      have hb : ((p : Int) == 0) = false := by simp; omega
      go_enter Tryd.func98, Tryd.ntmps98
      go_wp2
      go_ret2
      exact ⟨rfl, (Chg.refl _ _).alloc _⟩
  have hk2 : (k == 2) = false := by simpa using k2
  have hc : ck k p f = 40 := by unfold ck; rw [if_pos (by omega)]
  rw [ew_of hc rfl, hc]
  go_enter Tryd.func98, Tryd.ntmps98
  go_wp2
  go_ret2
  exact ⟨rfl, (Chg.refl _ _).alloc _⟩
end Ent
end Go.Proofs.YtoagdcdmahpglaaDoor
