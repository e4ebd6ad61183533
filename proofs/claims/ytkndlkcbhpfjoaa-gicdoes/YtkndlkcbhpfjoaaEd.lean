import Derived.Test.YtkndlkcbhpfjoaaEc
namespace Go.Proofs.Ytkndlkcbhpfjoaa
open Go.ChangeShapes Go.WideShapes Go.ChangeAt Go.RowKit Go.Shelf
set_option linter.unusedVariables false
def awZ (i : Nat) : Int := if i = 0 then 1 else 2
def aw0 : GS := rtJ 2 awZ 32
def aw1 : GS := aw0.raise 1
def aw2 : GS := aw1.raise 1
def aw3 : GS := aw2.raise 9
def aw4 : GS := aw3.take 2
theorem aw_a : aw0.rz 1 = true := by decide +kernel
theorem aw_b : aw1.rz 1 = false := by decide +kernel
theorem aw_c : aw2.rz 9 = false := by decide +kernel
theorem aw_d : nxN (aw3.wt 2) = 1 ∧ nxB (aw3.wt 2) = true := by decide +kernel
theorem aw_e : nxN (aw4.wt 2) = 0 ∧ nxB (aw4.wt 2) = false := by decide +kernel
set_option maxHeartbeats 2000000 in
set_option maxRecDepth 10000 in
theorem awake_any (w : World) : Calls Try.prog 9 #[] w fun e w' => e = .returned (.bool true) ∧ Kp w w' := by
  obtain ⟨W0, hW0⟩ : ∃ W0, W0 = w.alloc (.cells #[.int .i64 1, .int .i64 2] 3) := ⟨_, rfl⟩
  have k0 : Kp w W0 := by rw [hW0]; exact (Chg.refl w _).alloc _
  have hin : IntsIn W0 (some ⟨w.heap.size, 0, none⟩) 2 awZ := by
    have g : W0.heap[w.heap.size]? = some (.cells #[.int .i64 1, .int .i64 2] 3 (0, 0)) := by rw [hW0]; exact heap_alloc_new w _
    refine ⟨by omega, fun i => ?_, .inr ⟨_, _, rfl, fun i hi => ?_⟩⟩
    · unfold awZ InI; split <;> omega
    · rw [(cells_at g _).1]
      have : i = 0 ∨ i = 1 := by omega
      rcases this with rfl | rfl <;> rfl
  have hR := lrouted_any W0 (some ⟨w.heap.size, 0, none⟩) 2 2 awZ hin
  obtain ⟨B, hB⟩ : ∃ B, B = W0.heap.size := ⟨_, rfl⟩
  have hBw : w.heap.size ≤ B := by rw [hB, hW0]; simp
  rw [← hB] at hR
  have HB : Hid (w.heap.size ≤ B ∧ Kp w W0) := ⟨hBw, k0⟩
  clear hin hB hBw k0
  go_enter Try.func9, Try.ntmps9
  go_wp2_with fail
  go_at_call 10
  rw [← hW0]
  refine hR.mono ?_
  rintro e w1 ⟨rfl, g1, k1⟩
  clear hR hW0
  have hA := raise_ok w1 B aw0 g1 1 (by omega)
  rw [aw_a] at hA
  have HC : Hid (Kp w w1) := Kp.trans HB.out.2 k1
  clear g1 k1
  go_wp2_with fail
  go_at_call 12
  refine hA.mono ?_
  rintro e w2 ⟨rfl, g2, c2⟩
  clear hA
  have hA := raise_ok w2 B aw1 g2 1 (by omega)
  rw [aw_b] at hA
  have HC2 : Hid (Kp w w2) := Chg.trans HC.out c2 (fun i hi e => by have := HB.out.1; omega)
  clear g2 c2 HC
  go_wp2_with fail
  go_at_call 12
  refine hA.mono ?_
  rintro e w3 ⟨rfl, g2, c2⟩
  clear hA
  have hA := raise_ok w3 B aw2 g2 9 (by omega)
  rw [aw_c] at hA
  have HC : Hid (Kp w w3) := Chg.trans HC2.out c2 (fun i hi e => by have := HB.out.1; omega)
  clear g2 c2 HC2
  go_wp2_with fail
  go_at_call 12
  refine hA.mono ?_
  rintro e w4 ⟨rfl, g2, c2⟩
  clear hA
  have hA := take_any w4 B aw3 g2 2
  rw [aw_d.1, aw_d.2] at hA
  have HC2 : Hid (Kp w w4) := Chg.trans HC.out c2 (fun i hi e => by have := HB.out.1; omega)
  clear g2 c2 HC
  go_wp2_with fail
  go_at_call 14
  refine hA.mono ?_
  rintro e w5 ⟨rfl, g2, c2⟩
  clear hA
  have hA := take_any w5 B aw4 g2 2
  rw [aw_e.1, aw_e.2] at hA
  have HC : Hid (Kp w w5) := Chg.trans HC2.out c2 (fun i hi e => by have := HB.out.1; omega)
  clear g2 c2 HC2
  go_wp2_with fail
  go_at_call 14
  refine hA.mono ?_
  rintro e w6 ⟨rfl, g2, c2⟩
  clear hA
  have HC2 : Hid (Kp w w6) := Chg.trans HC.out c2 (fun i hi e => by have := HB.out.1; omega)
  clear g2 c2 HC
  go_wp2
  go_ret
  exact ⟨rfl, HC2.out⟩
end Go.Proofs.Ytkndlkcbhpfjoaa
