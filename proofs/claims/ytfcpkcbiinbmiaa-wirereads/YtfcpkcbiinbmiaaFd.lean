import Derived.Test.YtfcpkcbiinbmiaaFc
namespace Go.Proofs.Ytfcpkcbiinbmiaa
open Go.ChangeShapes Go.WideShapes Go.ChangeAt Go.RowKit
set_option linter.unusedVariables false
theorem IsRS.kp {w w' : World} {R : Nat} {a : Option Addr} {cap : Nat} {s : RS} (h : IsRS w R a cap s) (hc : Kp w w') : IsRS w' R a cap s := h.other hc (by simp) (by simp)
theorem IsD.kp {w w' : World} {R : Nat} {a : Option Addr} {cap : Nat} {s : RS} (h : IsD w R a cap s) (hc : Kp w w') : IsD w' R a cap s := h.other hc (by simp) (by simp)
theorem drewN0 (w : World) : w = w.drewN 0 := by cases w; rfl
set_option maxRecDepth 10000 in
theorem pleft_q (w : World) (R : Nat) (a : Option Addr) (cap : Nat) (s : RS) (h : IsRS w R a cap s) :
    Calls Try.prog 20 #[.pointer (some ⟨R, 0, none⟩)] w fun r w' => r = .returned (.int .i64 s.left) ∧ ∃ m, w' = w.drewN m := by
  obtain ⟨c0, c1, c2, c3, cf⟩ := IsR.cells h
  have hl : s.at_ ≤ s.bs.length := h.at_le
  have hb : s.bs.length ≤ 140737488355328 := h.bytes.2.1
  obtain ⟨bs, at_, err, wh⟩ := s
  simp only at c0 c1 c2 c3 hl hb
  clear h cf c3
  by_cases he : err = 0
  · subst he
    go_enter Try.func20, Try.ntmps20
    go_wp2_with fail
    go_quiet (fail)
    go_wp2
    go_ret
    refine ⟨ret_int ?_, _, rfl⟩
    simp [RS.left]
    omega
  · have he' : (err == 0) = false := by simpa using he
    go_enter Try.func20, Try.ntmps20
    go_wp2
    go_ret
    exact ⟨by simp [RS.left, he], 0, drewN0 _⟩
set_option maxRecDepth 10000 in
theorem dleft_q (w : World) (R : Nat) (a : Option Addr) (cap : Nat) (s : RS) (h : IsD w R a cap s) :
    Calls Try.prog 77 #[.pointer (some ⟨R, 0, none⟩)] w fun r w' => r = .returned (.int .i64 s.left) ∧ ∃ m, w' = w.drewN m := by
  obtain ⟨c0, c1, c2, c3, cf⟩ := h.cells
  have hl : s.at_ ≤ s.bs.length := h.at_le
  have hb : s.bs.length ≤ 140737488355328 := h.bytes.2.1
  obtain ⟨bs, at_, err, wh⟩ := s
  simp only at c0 c1 c2 c3 hl hb
  clear h cf c3
  by_cases he : err = 0
  · subst he
    go_enter Try.func77, Try.ntmps77
    go_wp2_with fail
    go_quiet (fail)
    go_wp2
    go_ret
    refine ⟨ret_int ?_, _, rfl⟩
    simp [RS.left]
    omega
  · have he' : (err == 0) = false := by simpa using he
    go_enter Try.func77, Try.ntmps77
    go_wp2
    go_ret
    exact ⟨by simp [RS.left, he], 0, drewN0 _⟩
set_option maxHeartbeats 400000 in
set_option maxRecDepth 10000 in
/-- alike: both have the same state. -/
theorem alike_any (w : World) (R D : Nat) (a b : Option Addr) (ca cb : Nat) (s : RS) (hR : IsRS w R a ca s) (hD : IsD w D b cb s) :
    Calls Try.prog 39 #[.agg #[.pointer (some ⟨R, 0, none⟩), .pointer (some ⟨D, 0, none⟩)]] w fun r w' => r = .returned (.bool true) ∧ Kp w w' := by
  have H : Hid (IsRS w R a ca s ∧ IsD w D b cb s) := ⟨hR, hD⟩
  clear hR hD
  go_enter Try.func39, Try.ntmps39
  go_wp2_with fail
  go_at_call 18
  obtain ⟨W1, hW1⟩ : ∃ W1, W1 = w.alloc (.cells #[.pointer (some ⟨R, 0, none⟩), .pointer (some ⟨D, 0, none⟩)] 77) := ⟨_, rfl⟩
  have k1 : Kp w W1 := by rw [hW1]; exact Kp.al _ _
  have p0 : W1.cell? ⟨w.heap.size, 0, none⟩ = some (.pointer (some ⟨R, 0, none⟩)) := by rw [hW1, (cells_at (heap_alloc_new w _) _).1]; rfl
  have p1 : W1.cell? ⟨w.heap.size, 1, none⟩ = some (.pointer (some ⟨D, 0, none⟩)) := by rw [hW1, (cells_at (heap_alloc_new w _) _).1]; rfl
  rw [← hW1]
  clear hW1
  refine (rerr_any W1 R a ca s (H.out.1.kp k1)).mono ?_
  rintro r W2 ⟨rfl, _, k2⟩
  have p0' := Kp.cell k2 p0
  have p1' := Kp.cell k2 p1
  have k12 : Hid (Kp w W2) := k1.trans k2
  clear k1 k2 p0 p1
  go_wp2_with fail
  go_at_call 76
  refine (derr_any W2 D b cb s (H.out.2.kp k12.out)).mono ?_
  rintro r W3 ⟨rfl, _, k3⟩
  have p0 := Kp.cell k3 p0'
  have p1 := Kp.cell k3 p1'
  have k13 : Hid (Kp w W3) := k12.out.trans k3
  clear k12 k3 p0' p1'
  have d1 := (H.out.2.kp k13.out).cells.2.1
  have e1 : (s.err == s.err) = true := by simp
  have e2 : (s.wh == s.wh) = true := by simp
  have e3 : ((s.at_ : Int) == (s.at_ : Int)) = true := by simp
  have e4 : ((s.left : Int) == (s.left : Int)) = true := by simp
  have cA : ∀ n, Calls Try.prog 19 #[.pointer (some ⟨R, 0, none⟩)] (W3.drewN n) fun r w' => r = .returned (.int .i64 s.at_) ∧ w' = W3.drewN n := fun n => rat_any _ R a ca s ((H.out.1.kp k13.out).kp (Kp.drewN _ n))
  have cL : ∀ n, Calls Try.prog 20 #[.pointer (some ⟨R, 0, none⟩)] (W3.drewN n) fun r w' => r = .returned (.int .i64 s.left) ∧ ∃ m, w' = (W3.drewN n).drewN m := fun n => pleft_q _ R a ca s ((H.out.1.kp k13.out).kp (Kp.drewN _ n))
  have cM : ∀ n, Calls Try.prog 77 #[.pointer (some ⟨D, 0, none⟩)] (W3.drewN n) fun r w' => r = .returned (.int .i64 s.left) ∧ ∃ m, w' = (W3.drewN n).drewN m := fun n => dleft_q _ D b cb s ((H.out.2.kp k13.out).kp (Kp.drewN _ n))
  go_wp2_with fail
  go_quiet (first | (go_at_call 19; exact Calls.quiet_of_same (cA _)) | (go_at_call 20; exact Calls.quiet_of (cL _)) | (go_at_call 77; exact Calls.quiet_of (cM _)))
  go_wp2
  go_ret
  exact ⟨rfl, k13.out.trans (Kp.drewN _ _)⟩
end Go.Proofs.Ytfcpkcbiinbmiaa
