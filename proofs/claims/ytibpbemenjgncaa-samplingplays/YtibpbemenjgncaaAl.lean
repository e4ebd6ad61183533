import Derived.Test.YtibpbemenjgncaaAk
namespace Go.Proofs.Ytibpbemenjgncaa
open Go.ChangeShapes Go.WideShapes Go.ChangeAt Go.RowKit
set_option linter.unusedVariables false
def mdL (n : Int) : List Int := if n.tmod 2 = 0 then [3] else [2, 3]
/-- The port that is made. -/
def mdP (n : Int) : PS := ⟨1, 16, inF (mdL n), Ms.no, Ms.no⟩
theorem mdP_rd (n : Int) : (mdP n).rd 3 = true := by
  unfold mdP mdL
  simp only
  split <;> decide
set_option maxHeartbeats 2000000 in
set_option maxRecDepth 10000 in
theorem made_any (w : World) (n : Int) : Calls Try.prog 9 #[.int .i64 n] w fun e w' => ∃ B, e = .returned (.pointer (some ⟨B, 0, none⟩)) ∧ w.heap.size ≤ B ∧ IsP w' B (.slice none 0 0) (.slice none 0 0) (mdP n) false ∧ Kp w w' := by
  by_cases hn : n.tmod 2 = 0
  · have hb : (n.tmod 2 == 0) = true := by simp [hn]
    have hL : mdL n = [3] := by unfold mdL; rw [if_pos hn]
    have hP : mdP n = ⟨1, 16, inF [3], Ms.no, Ms.no⟩ := by unfold mdP; rw [hL]
    rw [hP]
    have hm : mayP 1 16 [3] = true := by decide
    have hr : RdI ((w.alloc (.cells #[.int .i64 2, .int .i64 3] 3)).alloc (.cells #[.int .i64 3] 3)) (.slice (some ⟨w.heap.size + 1, 0, none⟩) 1 1) [3] := by simpa using rdi1 (w.alloc (.cells #[.int .i64 2, .int .i64 3] 3)) 3
    clear hn hL hP
    go_enter Try.func9, Try.ntmps9
    go_wp2_with fail
    go_at_call 14
    refine (new_any _ 1 16 _ [3] hr).mono ?_
    rintro e w1 ⟨k1, hc⟩
    obtain ⟨_, B, rfl, hB, hP⟩ := hc.resolve_left (fun h => by rw [hm] at h; cases h.1)
    have K1 : Hid (Kp w w1 ∧ w.heap.size ≤ B ∧ IsP w1 B (.slice none 0 0) (.slice none 0 0) ⟨1, 16, inF [3], Ms.no, Ms.no⟩ false) := ⟨Kp.trans ((Kp.al _ _).alloc _) k1, by simp at hB; omega, hP⟩
    clear hm hc k1 hB hP
    go_wp2_with fail
    go_ret
    exact ⟨B, rfl, K1.out.2.1, K1.out.2.2, K1.out.1⟩
  · have hb : (n.tmod 2 == 0) = false := by simp [hn]
    have hL : mdL n = [2, 3] := by unfold mdL; rw [if_neg hn]
    have hP : mdP n = ⟨1, 16, inF [2, 3], Ms.no, Ms.no⟩ := by unfold mdP; rw [hL]
    rw [hP]
    have hm : mayP 1 16 [2, 3] = true := by decide
    clear hn hL hP
    go_enter Try.func9, Try.ntmps9
    go_wp2_with fail
    go_at_call 14
    refine (new_any _ 1 16 _ [2, 3] (rdi2 _ 2 3)).mono ?_
    rintro e w1 ⟨k1, hc⟩
    obtain ⟨_, B, rfl, hB, hP⟩ := hc.resolve_left (fun h => by rw [hm] at h; cases h.1)
    have K1 : Hid (Kp w w1 ∧ w.heap.size ≤ B ∧ IsP w1 B (.slice none 0 0) (.slice none 0 0) ⟨1, 16, inF [2, 3], Ms.no, Ms.no⟩ false) := ⟨(Kp.al _ _).trans k1, by simp at hB; omega, hP⟩
    clear hm hc k1 hB hP
    go_wp2_with fail
    go_ret
    exact ⟨B, rfl, K1.out.2.1, K1.out.2.2, K1.out.1⟩
end Go.Proofs.Ytibpbemenjgncaa
