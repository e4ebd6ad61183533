import Derived.Test.YtjmcimhklmfofabDoorRp
import Derived.Lib.SlBytesConst
namespace Go.Proofs.YtjmcimhklmfofabDoor
open Go.ChangeShapes Go.WideShapes Go.ChangeAt Go.RowKit
set_option linter.unusedVariables false

theorem fr_1 {f : Nat} (h : f < 16) : fr f = [48, 48, hx f] := by
  simp only [fr]
  rw [show f / 256 = 0 by omega, show f / 16 % 16 = 0 by omega, show f % 16 = f by omega]
  rfl
theorem fr_2 {f : Nat} (h : f < 256) : fr f = [48, hx (f / 16), hx (f % 16)] := by
  simp only [fr]
  rw [show f / 256 = 0 by omega, show f / 16 % 16 = f / 16 by omega]
  rfl

set_option maxRecDepth 100000 in
theorem showFrame_any (w : World) (h : Gl w) (f : Nat) (hf : f < 4096) : Calls Tryd.prog 17 #[.int .u32 f] w fun e w' => e = .returned (.string ⟨(fr f).toArray⟩) ∧ Kp w w' := by
  have hF := FormatUint_any w h f hf
  by_cases h1 : f < 16
  · have e1 : hxs f = [hx f] := by simp [hxs, h1]
    rw [e1] at hF
    rw [fr_1 h1]
    generalize hx f = a at *
    clear e1
    go_enter Tryd.func17, Tryd.ntmps17
    go_wp2_with (go_at_call 24; refine hF.mono ?_; rintro e w1 ⟨rfl, k1⟩)
    go_wp2_with (go_at_call 25; refine (rep_2 _).mono ?_; rintro e w2 ⟨rfl, rfl⟩)
    go_ret
    exact ⟨rfl, k1⟩
  · by_cases h2 : f < 256
    · have e1 : hxs f = [hx (f / 16), hx (f % 16)] := by simp [hxs, h1, h2]
      rw [e1] at hF
      rw [fr_2 h2]
      generalize hx (f / 16) = a at *
      generalize hx (f % 16) = b at *
      clear e1
      go_enter Tryd.func17, Tryd.ntmps17
      go_wp2_with (go_at_call 24; refine hF.mono ?_; rintro e w1 ⟨rfl, k1⟩)
      go_wp2_with (go_at_call 25; refine (rep_1 _).mono ?_; rintro e w2 ⟨rfl, rfl⟩)
      go_ret
      exact ⟨rfl, k1⟩
    · have e1 : hxs f = [hx (f / 256), hx (f / 16 % 16), hx (f % 16)] := by simp [hxs, h1, h2]
      rw [e1] at hF
      simp only [fr]
      generalize hx (f / 256) = a at *
      generalize hx (f / 16 % 16) = b at *
      generalize hx (f % 16) = c at *
      clear e1
      go_enter Tryd.func17, Tryd.ntmps17
      go_wp2_with (go_at_call 24; refine hF.mono ?_; rintro e w1 ⟨rfl, k1⟩)
      go_wp2_with (go_at_call 25; refine (rep_0 _).mono ?_; rintro e w2 ⟨rfl, rfl⟩)
      go_ret
      exact ⟨rfl, k1⟩

/-- The row of the letters. -/
def R3 (w : World) (B : Nat) (a b c : Int) : Prop := w.heap[B]? = some (.cells #[.int .u8 a, .int .u8 b, .int .u8 c] 5 (3, 4))
theorem R3.cells {w : World} {B : Nat} {a b c : Int} (h : R3 w B a b c) : w.cell? ⟨B, 0, none⟩ = some (.int .u8 a) ∧ w.cell? ⟨B, 1, none⟩ = some (.int .u8 b) ∧ w.cell? ⟨B, 2, none⟩ = some (.int .u8 c) ∧ w.frozen? ⟨B, 0, none⟩ = false ∧ w.frozen? ⟨B, 1, none⟩ = false ∧ w.frozen? ⟨B, 2, none⟩ = false := by
  unfold R3 at h
  refine ⟨?_, ?_, ?_, ?_, ?_, ?_⟩
  · simp only [World.cell?, h]; rfl
  · simp only [World.cell?, h]; rfl
  · simp only [World.cell?, h]; rfl
  · simp only [World.frozen?, h]; rfl
  · simp only [World.frozen?, h]; rfl
  · simp only [World.frozen?, h]; rfl
theorem R3.put {w V : World} {B : Nat} {a b c : Int} (h : R3 w B a b c) (i : Nat) (hV : V = w.setCell ⟨B, i, none⟩ (.int .u8 45)) :
    (i = 0 → R3 V B 45 b c) ∧ (i = 1 → R3 V B a 45 c) ∧ (i = 2 → R3 V B a b 45) ∧ Chg w V (fun k => k = B) := by
  subst hV
  unfold R3 at *
  refine ⟨?_, ?_, ?_, Chg.setCell (S := fun k => k = B) (Chg.refl w _) (.inl rfl) _⟩ <;> (rintro rfl; simp [World.setCell, Array.getElem?_modify, h])
theorem R3.text {w : World} {B : Nat} {a b c : UInt8} (h : R3 w B a.toNat b.toNat c.toNat) : (convert 53 9 (.slice (some ⟨B, 0, none⟩) 3 3)).run Tryd.prog w = .ok (.string ⟨#[a, b, c]⟩) w := by
  obtain ⟨h0, h1, h2, _⟩ := h.cells
  refine run_convert_bytes_back (P := Tryd.prog) w 53 9 5 ⟨B, 0, none⟩ 3 [a, b, c] Tryd.underlying53 Tryd.underlying5 Tryd.underlying9 ?_
  intro j hj
  have : j = 0 ∨ j = 1 ∨ j = 2 := by simp at hj; omega
  rw [Addr.add_lit]
  rcases this with rfl | rfl | rfl
  · exact h0
  · exact h1
  · exact h2

set_option maxRecDepth 100000 in
theorem showPerm_1 (w : World) : Calls Tryd.prog 16 #[.int .u8 1] w fun e w' => e = .returned (.string ⟨#[114, 45, 45]⟩) ∧ Kp w w' := by
  have hcv := fun (w : World) (C : Array Value) (n c : Nat) => Lib.run_convert_bytes_const (P := Tryd.prog) w 53 5 C n c Tryd.underlying53 Tryd.underlying5
  have b0 : bits .and .u8 0 1 = 0 := by decide +kernel
  have b1 : bits .and .u8 1 1 = 1 := by decide +kernel
  go_enter Tryd.func16, Tryd.ntmps16
  go_wp2
  obtain ⟨w0, hw0⟩ : ∃ x, x = w.alloc (.cells #[.int .u8 114, .int .u8 119, .int .u8 120] 5 (3, 4)) := ⟨_, rfl⟩
  rw [← hw0]
  have r0 : R3 w0 w.heap.size 114 119 120 := by rw [hw0]; exact heap_alloc_new w _
  have k0 : Kp w w0 := by rw [hw0]; exact (Chg.refl _ _).alloc _
  clear hw0 hcv
  obtain ⟨c0, c1, c2, f0, f1, f2⟩ := r0.cells
  refine wp_loop_rounds 4 ?_
  rw [rounds_succ]
  go_wp2
  rw [rounds_succ]
  go_wp2
  obtain ⟨w2, hw2⟩ : ∃ x, x = w0.setCell ⟨w.heap.size, 1, none⟩ (.int .u8 45) := ⟨_, rfl⟩
  rw [← hw2]
  clear c0 c1 c2 f0 f1 f2
  obtain ⟨q0, q1, q2, q3⟩ := r0.put 1 hw2
  have r2 := q1 rfl
  have k2 : Kp w w2 := Chg.trans (T := fun k => k = w.heap.size) k0 q3 (fun i hi e => absurd e (Nat.ne_of_lt hi))
  clear hw2 q0 q1 q2 q3
  obtain ⟨c0, c1, c2, f0, f1, f2⟩ := r2.cells
  rw [rounds_succ]
  go_wp2
  obtain ⟨w3, hw3⟩ : ∃ x, x = w2.setCell ⟨w.heap.size, 2, none⟩ (.int .u8 45) := ⟨_, rfl⟩
  rw [← hw3]
  clear c0 c1 c2 f0 f1 f2
  obtain ⟨q0, q1, q2, q3⟩ := r2.put 2 hw3
  have r3 := q2 rfl
  have k3 : Kp w w3 := Chg.trans (T := fun k => k = w.heap.size) k2 q3 (fun i hi e => absurd e (Nat.ne_of_lt hi))
  clear hw3 q0 q1 q2 q3
  obtain ⟨c0, c1, c2, f0, f1, f2⟩ := r3.cells
  rw [rounds_succ]
  have ht := R3.text (a := 114) (b := 45) (c := 45) r3
  go_wp2
  go_ret
  exact ⟨rfl, k3⟩

set_option maxRecDepth 100000 in
theorem showPerm_3 (w : World) : Calls Tryd.prog 16 #[.int .u8 3] w fun e w' => e = .returned (.string ⟨#[114, 119, 45]⟩) ∧ Kp w w' := by
  have hcv := fun (w : World) (C : Array Value) (n c : Nat) => Lib.run_convert_bytes_const (P := Tryd.prog) w 53 5 C n c Tryd.underlying53 Tryd.underlying5
  have b0 : bits .and .u8 0 1 = 0 := by decide +kernel
  have b1 : bits .and .u8 1 1 = 1 := by decide +kernel
  have b3 : bits .and .u8 3 1 = 1 := by decide +kernel
  go_enter Tryd.func16, Tryd.ntmps16
  go_wp2
  obtain ⟨w0, hw0⟩ : ∃ x, x = w.alloc (.cells #[.int .u8 114, .int .u8 119, .int .u8 120] 5 (3, 4)) := ⟨_, rfl⟩
  rw [← hw0]
  have r0 : R3 w0 w.heap.size 114 119 120 := by rw [hw0]; exact heap_alloc_new w _
  have k0 : Kp w w0 := by rw [hw0]; exact (Chg.refl _ _).alloc _
  clear hw0 hcv
  obtain ⟨c0, c1, c2, f0, f1, f2⟩ := r0.cells
  refine wp_loop_rounds 4 ?_
  rw [rounds_succ]
  go_wp2
  rw [rounds_succ]
  go_wp2
  rw [rounds_succ]
  go_wp2
  obtain ⟨w3, hw3⟩ : ∃ x, x = w0.setCell ⟨w.heap.size, 2, none⟩ (.int .u8 45) := ⟨_, rfl⟩
  rw [← hw3]
  clear c0 c1 c2 f0 f1 f2
  obtain ⟨q0, q1, q2, q3⟩ := r0.put 2 hw3
  have r3 := q2 rfl
  have k3 : Kp w w3 := Chg.trans (T := fun k => k = w.heap.size) k0 q3 (fun i hi e => absurd e (Nat.ne_of_lt hi))
  clear hw3 q0 q1 q2 q3
  obtain ⟨c0, c1, c2, f0, f1, f2⟩ := r3.cells
  rw [rounds_succ]
  have ht := R3.text (a := 114) (b := 119) (c := 45) r3
  go_wp2
  go_ret
  exact ⟨rfl, k3⟩

set_option maxRecDepth 100000 in
theorem showPerm_4 (w : World) : Calls Tryd.prog 16 #[.int .u8 4] w fun e w' => e = .returned (.string ⟨#[45, 45, 120]⟩) ∧ Kp w w' := by
  have hcv := fun (w : World) (C : Array Value) (n c : Nat) => Lib.run_convert_bytes_const (P := Tryd.prog) w 53 5 C n c Tryd.underlying53 Tryd.underlying5
  have b1 : bits .and .u8 1 1 = 1 := by decide +kernel
  have b2 : bits .and .u8 2 1 = 0 := by decide +kernel
  have b4 : bits .and .u8 4 1 = 0 := by decide +kernel
  go_enter Tryd.func16, Tryd.ntmps16
  go_wp2
  obtain ⟨w0, hw0⟩ : ∃ x, x = w.alloc (.cells #[.int .u8 114, .int .u8 119, .int .u8 120] 5 (3, 4)) := ⟨_, rfl⟩
  rw [← hw0]
  have r0 : R3 w0 w.heap.size 114 119 120 := by rw [hw0]; exact heap_alloc_new w _
  have k0 : Kp w w0 := by rw [hw0]; exact (Chg.refl _ _).alloc _
  clear hw0 hcv
  obtain ⟨c0, c1, c2, f0, f1, f2⟩ := r0.cells
  refine wp_loop_rounds 4 ?_
  rw [rounds_succ]
  go_wp2
  obtain ⟨w1, hw1⟩ : ∃ x, x = w0.setCell ⟨w.heap.size, 0, none⟩ (.int .u8 45) := ⟨_, rfl⟩
  rw [← hw1]
  clear c0 c1 c2 f0 f1 f2
  obtain ⟨q0, q1, q2, q3⟩ := r0.put 0 hw1
  have r1 := q0 rfl
  have k1 : Kp w w1 := Chg.trans (T := fun k => k = w.heap.size) k0 q3 (fun i hi e => absurd e (Nat.ne_of_lt hi))
  clear hw1 q0 q1 q2 q3
  obtain ⟨c0, c1, c2, f0, f1, f2⟩ := r1.cells
  rw [rounds_succ]
  go_wp2
  obtain ⟨w2, hw2⟩ : ∃ x, x = w1.setCell ⟨w.heap.size, 1, none⟩ (.int .u8 45) := ⟨_, rfl⟩
  rw [← hw2]
  clear c0 c1 c2 f0 f1 f2
  obtain ⟨q0, q1, q2, q3⟩ := r1.put 1 hw2
  have r2 := q1 rfl
  have k2 : Kp w w2 := Chg.trans (T := fun k => k = w.heap.size) k1 q3 (fun i hi e => absurd e (Nat.ne_of_lt hi))
  clear hw2 q0 q1 q2 q3
  obtain ⟨c0, c1, c2, f0, f1, f2⟩ := r2.cells
  rw [rounds_succ]
  go_wp2
  rw [rounds_succ]
  have ht := R3.text (a := 45) (b := 45) (c := 120) r2
  go_wp2
  go_ret
  exact ⟨rfl, k2⟩

set_option maxRecDepth 100000 in
theorem showPerm_5 (w : World) : Calls Tryd.prog 16 #[.int .u8 5] w fun e w' => e = .returned (.string ⟨#[114, 45, 120]⟩) ∧ Kp w w' := by
  have hcv := fun (w : World) (C : Array Value) (n c : Nat) => Lib.run_convert_bytes_const (P := Tryd.prog) w 53 5 C n c Tryd.underlying53 Tryd.underlying5
  have b1 : bits .and .u8 1 1 = 1 := by decide +kernel
  have b2 : bits .and .u8 2 1 = 0 := by decide +kernel
  have b5 : bits .and .u8 5 1 = 1 := by decide +kernel
  go_enter Tryd.func16, Tryd.ntmps16
  go_wp2
  obtain ⟨w0, hw0⟩ : ∃ x, x = w.alloc (.cells #[.int .u8 114, .int .u8 119, .int .u8 120] 5 (3, 4)) := ⟨_, rfl⟩
  rw [← hw0]
  have r0 : R3 w0 w.heap.size 114 119 120 := by rw [hw0]; exact heap_alloc_new w _
  have k0 : Kp w w0 := by rw [hw0]; exact (Chg.refl _ _).alloc _
  clear hw0 hcv
  obtain ⟨c0, c1, c2, f0, f1, f2⟩ := r0.cells
  refine wp_loop_rounds 4 ?_
  rw [rounds_succ]
  go_wp2
  rw [rounds_succ]
  go_wp2
  obtain ⟨w2, hw2⟩ : ∃ x, x = w0.setCell ⟨w.heap.size, 1, none⟩ (.int .u8 45) := ⟨_, rfl⟩
  rw [← hw2]
  clear c0 c1 c2 f0 f1 f2
  obtain ⟨q0, q1, q2, q3⟩ := r0.put 1 hw2
  have r2 := q1 rfl
  have k2 : Kp w w2 := Chg.trans (T := fun k => k = w.heap.size) k0 q3 (fun i hi e => absurd e (Nat.ne_of_lt hi))
  clear hw2 q0 q1 q2 q3
  obtain ⟨c0, c1, c2, f0, f1, f2⟩ := r2.cells
  rw [rounds_succ]
  go_wp2
  rw [rounds_succ]
  have ht := R3.text (a := 114) (b := 45) (c := 120) r2
  go_wp2
  go_ret
  exact ⟨rfl, k2⟩

set_option maxRecDepth 100000 in
theorem showPerm_7 (w : World) : Calls Tryd.prog 16 #[.int .u8 7] w fun e w' => e = .returned (.string ⟨#[114, 119, 120]⟩) ∧ Kp w w' := by
  have hcv := fun (w : World) (C : Array Value) (n c : Nat) => Lib.run_convert_bytes_const (P := Tryd.prog) w 53 5 C n c Tryd.underlying53 Tryd.underlying5
  have b1 : bits .and .u8 1 1 = 1 := by decide +kernel
  have b3 : bits .and .u8 3 1 = 1 := by decide +kernel
  have b7 : bits .and .u8 7 1 = 1 := by decide +kernel
  go_enter Tryd.func16, Tryd.ntmps16
  go_wp2
  obtain ⟨w0, hw0⟩ : ∃ x, x = w.alloc (.cells #[.int .u8 114, .int .u8 119, .int .u8 120] 5 (3, 4)) := ⟨_, rfl⟩
  rw [← hw0]
  have r0 : R3 w0 w.heap.size 114 119 120 := by rw [hw0]; exact heap_alloc_new w _
  have k0 : Kp w w0 := by rw [hw0]; exact (Chg.refl _ _).alloc _
  clear hw0 hcv
  obtain ⟨c0, c1, c2, f0, f1, f2⟩ := r0.cells
  refine wp_loop_rounds 4 ?_
  rw [rounds_succ]
  go_wp2
  rw [rounds_succ]
  go_wp2
  rw [rounds_succ]
  go_wp2
  rw [rounds_succ]
  have ht := R3.text (a := 114) (b := 119) (c := 120) r0
  go_wp2
  go_ret
  exact ⟨rfl, k0⟩

theorem showPerm_any (w : World) (p : Nat) (hp : p = 1 ∨ p = 3 ∨ p = 4 ∨ p = 5 ∨ p = 7) : Calls Tryd.prog 16 #[.int .u8 p] w fun e w' => e = .returned (.string ⟨(hd3 p).toArray⟩) ∧ Kp w w' := by
  rcases hp with rfl | rfl | rfl | rfl | rfl
  · exact showPerm_1 w
  · exact showPerm_3 w
  · exact showPerm_4 w
  · exact showPerm_5 w
  · exact showPerm_7 w
end Go.Proofs.YtjmcimhklmfofabDoor
