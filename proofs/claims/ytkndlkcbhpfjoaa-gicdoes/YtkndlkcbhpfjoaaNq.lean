import Derived.Test.YtkndlkcbhpfjoaaNp
namespace Go.Proofs.Ytkndlkcbhpfjoaa
open Go.ChangeShapes Go.WideShapes Go.ChangeAt Go.RowKit Go.Shelf
set_option linter.unusedVariables false
theorem nx_out (f : Nat → Bool) (h : nxB f = false) : nxN f = 0 ∧ nxI f = -1 := by
  unfold nxI
  rw [h]
  unfold nxB at h
  unfold nxN
  cases e : nx f with
  | none => exact ⟨rfl, rfl⟩
  | some a => rw [e] at h; cases h
theorem nx_in (f : Nat → Bool) (h : nxB f = true) : nxI f = (nxN f : Nat) ∧ nxN f < 32 := ⟨by unfold nxI; rw [if_pos h], (nx_some h).1⟩
set_option maxHeartbeats 4000000 in
set_option maxRecDepth 10000 in
theorem told_any (w : World) (q B F R P M : Nat) (s : GS) (h : IsP w q B F R P M s) (c : Int) :
    Calls Try.prog 27 #[.pointer (some ⟨q, 0, none⟩), .int .i64 c] w fun e w' => e = .returned (.bool true) ∧ Kp w w' := by
  have HQ : ∀ w', Kp w w' → w'.cell? ⟨q, 0, none⟩ = some (.pointer (some ⟨B, 0, none⟩)) ∧ w'.cell? ⟨q, 1, none⟩ = some (.pointer (some ⟨F, 0, none⟩)) := fun w' k => ⟨(h.kp k).c0, (h.kp k).c1⟩
  have hM : ∀ w', Kp w w' → Calls Try.prog 15 #[.pointer (some ⟨B, 0, none⟩), .int .i64 c] w' fun e w'' => e = .returned (.int .u32 (sw (s.mk' c) : Nat)) ∧ Kp w' w'' := fun w' k => masked_any w' B s (h.kp k).g c
  have hW : ∀ w', Kp w w' → Calls Try.prog 13 #[.pointer (some ⟨B, 0, none⟩), .int .i64 c] w' fun e w'' => e = .returned (.int .u32 (sw (s.wt c) : Nat)) ∧ Kp w' w'' := fun w' k => waiting_any w' B s (h.kp k).g c
  have hN : ∀ w', Kp w w' → Calls Try.prog 33 #[.pointer (some ⟨B, 0, none⟩), .int .i64 c] w' fun e w'' => e = .returned (.tuple #[.int .i64 (nxN (s.wt c) : Nat), .bool (nxB (s.wt c))]) ∧ Kp w' w'' := fun w' k => next_any w' B s (h.kp k).g c
  have hF : ∀ w', Kp w w' → Calls Try.prog 47 #[.pointer (some ⟨F, 0, none⟩), .int .i64 c] w' fun e w'' => e = .returned (.int .i64 (nxI (s.wt c))) ∧ w'' = w' := fun w' k => fNext_any w' F R P M s (h.kp k).f h.ok.rt c
  have hS1 : ∀ w', Kp w w' → Calls Try.prog 48 #[.pointer (some ⟨F, 0, none⟩), .int .i64 c, .int .i64 1] w' fun e w'' => e = .returned (.int .u32 (sw (s.mk' c) : Nat)) ∧ w'' = w' := fun w' k => fSet1_any w' F R P M s (h.kp k).f h.ok.rt c
  have hS2 : ∀ w', Kp w w' → Calls Try.prog 48 #[.pointer (some ⟨F, 0, none⟩), .int .i64 c, .int .i64 2] w' fun e w'' => e = .returned (.int .u32 (sw (s.wt c) : Nat)) ∧ w'' = w' := fun w' k => fSet2_any w' F R P M s (h.kp k).f h.ok.rt c
  clear h
  generalize s.wt c = f at *
  generalize sw (s.mk' c) = a at *
  obtain ⟨b, hb⟩ : ∃ b, b = sw f := ⟨_, rfl⟩
  rw [← hb] at hW hS2
  clear hb
  obtain ⟨n, hn⟩ : ∃ n, n = nxN f := ⟨_, rfl⟩
  obtain ⟨i, hi⟩ : ∃ i, i = nxI f := ⟨_, rfl⟩
  obtain ⟨o, ho⟩ : ∃ o, o = nxB f := ⟨_, rfl⟩
  rw [← hn, ← ho] at hN
  rw [← hi] at hF
  have HE : Hid ((o = true → i = (n : Nat)) ∧ (o = false → n = 0 ∧ i = -1)) := ⟨fun e => by rw [hn, hi]; exact (nx_in f (by rw [← ho]; exact e)).1, fun e => by rw [hn, hi]; exact nx_out f (by rw [← ho]; exact e)⟩
  clear hn hi ho
  obtain ⟨c0, -⟩ := HQ w (Kp.refl w)
  have hM1 := hM w (Kp.refl w)
  clear hM
  go_enter Try.func27, Try.ntmps27
  go_wp2_with fail
  go_at_call 15
  refine hM1.mono ?_
  rintro e w1 ⟨rfl, k1⟩
  clear hM1
  obtain ⟨c1, -⟩ := HQ w1 k1
  have hW1 := hW w1 k1
  clear hW c0
  go_wp2_with fail
  go_at_call 13
  refine hW1.mono ?_
  rintro e w2 ⟨rfl, k2⟩
  have k2 := Kp.trans k1 k2
  clear hW1 k1 c1
  obtain ⟨c2, -⟩ := HQ w2 k2
  have hN1 := hN w2 k2
  clear hN
  go_wp2_with fail
  go_at_call 33
  refine hN1.mono ?_
  rintro e w3 ⟨rfl, k3⟩
  have k3 := Kp.trans k2 k3
  clear hN1 k2 c2
  obtain ⟨-, c3⟩ := HQ w3 k3
  have hF1 := hF w3 k3
  have hS3 := hS1 w3 k3
  have hS4 := hS2 w3 k3
  have K3 : Hid (Kp w w3) := k3
  clear hF hS1 hS2 k3 HQ
  go_wp2_with fail
  go_at_call 47
  refine hF1.mono ?_
  rintro e wz ⟨rfl, hwz⟩
  rw [hwz]
  clear hF1 hwz
  go_wp2_with fail
  go_at_call 48
  refine hS3.mono ?_
  rintro e wz ⟨rfl, hwz⟩
  rw [hwz]
  clear hS3 hwz
  go_wp2_with fail
  go_at_call 48
  refine hS4.mono ?_
  rintro e wz ⟨rfl, hwz⟩
  rw [hwz]
  clear hS4 hwz
  cases o with
  | true =>
    obtain rfl := HE.out.1 rfl
    have hp : (0 : Int) ≤ (n : Int) := by omega
    go_wp2
    go_ret
    exact ⟨rfl, K3.out⟩
  | false =>
    obtain ⟨rfl, rfl⟩ := HE.out.2 rfl
    go_wp2
    go_ret
    exact ⟨rfl, K3.out⟩
end Go.Proofs.Ytkndlkcbhpfjoaa
