import Derived.Test.YtkndlkcbhpfjoaaBa
namespace Go.Proofs.Ytkndlkcbhpfjoaa
open Go.ChangeShapes Go.WideShapes Go.ChangeAt Go.RowKit
set_option linter.unusedVariables false

def GS.to (s : GS) (c : Int) (i : Nat) : Bool := decide ((s.rt i : Int) = c)
theorem size36 (s : GS) : (Try.prog.info? 36).map (·.size) = some ((gcs s).take 32).length := by
  rw [List.length_take, gcs_len]; kernel_rfl
theorem size38 (s : GS) : (Try.prog.info? 38).map (·.size) = some (gcs s).length := by
  rw [gcs_len]; kernel_rfl
theorem to_or (s : GS) (c : Int) (j : Nat) (hj : j < 32) (ht : s.to c j = true) : bits .or .u32 (sw (fun i => decide (i < j) && s.to c i) : Nat) (sw (fun i => i == j) : Nat) = ((sw (fun i => decide (i < j + 1) && s.to c i) : Nat) : Int) := by
  rw [sw_or]
  congr 1
  refine sw_ext fun i hi => ?_
  by_cases h1 : i = j
  · rw [h1, ht]; simp
  · have e1 : (i == j) = false := by simpa using h1
    have e2 : decide (i < j + 1) = decide (i < j) := by
      by_cases h : i < j
      · simp [h]; omega
      · simp [h]; omega
    rw [e1, e2]; simp
theorem to_no (s : GS) (c : Int) (j : Nat) (ht : s.to c j = false) : sw (fun i => decide (i < j) && s.to c i) = sw (fun i => decide (i < j + 1) && s.to c i) := by
  refine sw_ext fun i hi => ?_
  by_cases h1 : i = j
  · rw [h1, ht]; simp
  · have e2 : decide (i < j + 1) = decide (i < j) := by
      by_cases h : i < j
      · simp [h]; omega
      · simp [h]; omega
    rw [e2]
set_option maxHeartbeats 1000000 in
theorem routed_any (w : World) (B : Nat) (s : GS) (h : IsG w B s) (c : Int) :
    Calls Try.prog 39 #[.pointer (some ⟨B, 0, none⟩), .int .i64 c] w fun e w' => e = .returned (.int .u32 (sw (s.to c) : Nat)) ∧ w' = w := by
  have hrg := h.range32
  have hO := fun l hl => only_any w l hl
  have hA : ∀ j, j < 32 → ((gcs s).take 32).toArray[j]? = some (.int .i64 (s.rt j : Nat)) := fun j hj => by
    rw [List.getElem?_toArray, List.getElem?_take, gcs_rt s j hj]; simp [hj]
  have hAs : ((gcs s).take 32).toArray.size = 32 := by simp [gcs_len]
  obtain ⟨A, hAe⟩ : ∃ A, A = (gcs s).take 32 := ⟨_, rfl⟩
  have hsz := size36 s
  rw [← hAe] at hrg hA hAs hsz
  have hix : ∀ (j : Nat), j < 32 → ∀ w, (Instr.index 36 (.agg A.toArray) (.int .i64 (j : Nat))).run Try.prog w = .ok (.int .i64 (s.rt j : Nat)) w := fun j hj w => by
    have := hA j hj
    have e1 : (0 : Int) ≤ j ∧ (j : Int) < 32 := by omega
    have s1 : (Try.prog.info? 3).map (·.size) = some 1 := by kernel_rfl
    cases hq : Try.prog.info? 3 with
    | none => rw [hq] at s1; cases s1
    | some i3 =>
      have hs3 : i3.size = 1 := by rw [hq] at s1; simpa using s1
      simp only [List.getElem?_toArray] at this
      simp [Instr.index, run_underlying Try.underlying36, asIntOf, e1, go_sem, sizeOf, typeInfo, hq, hs3, hj, this]
  clear h hAe
  go_enter Try.func39, Try.ntmps39
  go_wp2_with (refine wpList_load_mid rfl 36 (.tmp 11) rfl B 0 rfl A _ hrg Try.underlying36 rfl hsz ?_)
  go_loopw [5, 13] (fun s5 s13 wr => ∃ j : Nat, s13 = .int .i64 j ∧ j ≤ 32 ∧ s5 = .int .u32 (sw (fun i => decide (i < j) && s.to c i) : Nat) ∧ wr = w) (fun _ s13 _ => 32 - (intOf s13).toNat)
  case atStart =>
    refine ⟨0, rfl, by omega, ?_, rfl⟩
    have : sw (fun i => decide (i < 0) && s.to c i) = 0 := sw_zero.2 (fun i _ => by simp)
    rw [this]; rfl
  case round =>
    obtain ⟨j, rfl, hj, rfl, rfl⟩ := hrel
    by_cases hlt : j < 32
    · have hjz : (j : Int) < 32 := by omega
      have hx := hix j hlt wr
      cases ht : s.to c j with
      | true =>
        have hte : ((s.rt j : Int) = c) := by unfold GS.to at ht; exact of_decide_eq_true ht
        have hor := to_or s c j hlt ht
        have hO1 := hO j hlt
        clear ht hO
        go_wp2_with fail
        go_at_call 31
        refine hO1.mono ?_
        rintro e w1 ⟨rfl, rfl⟩
        clear hO1
        go_wp2
        exact ⟨⟨j + 1, by go_num, by omega, rfl, trivial⟩, by simp [intOf]; omega⟩
      | false =>
        have hte : ¬ ((s.rt j : Int) = c) := by unfold GS.to at ht; exact of_decide_eq_false ht
        have hno := to_no s c j ht
        clear ht hO
        go_wp2
        exact ⟨⟨j + 1, by go_num, by omega, by rw [hno], trivial⟩, by simp [intOf]; omega⟩
    · have hjz : ¬ (j : Int) < 32 := by omega
      obtain rfl : j = 32 := by omega
      have hend : sw (fun i => decide (i < 32) && s.to c i) = sw (s.to c) := sw_ext fun i hi => by simp [hi]
      go_wp2
      go_ret
      exact ⟨rfl, rfl⟩
set_option maxHeartbeats 1000000 in
theorem own_any (w : World) (B : Nat) (s : GS) (h : IsG w B s) (c : Int) :
    Calls Try.prog 32 #[.pointer (some ⟨B, 0, none⟩), .int .i64 c] w fun e w' => e = .returned (.int .u32 (sw (s.ow c) : Nat)) ∧ w' = w := by
  have hR := routed_any w B s h c
  clear h
  by_cases hc : c = 0
  · subst hc
    have e0 : sw (s.ow 0) = 0 := sw_zero.2 fun i _ => by simp [GS.ow]
    go_enter Try.func32, Try.ntmps32
    go_wp2
    go_ret
    exact ⟨by rw [e0]; rfl, rfl⟩
  · have e0 : sw (s.ow c) = sw (s.to c) := sw_ext fun i _ => by simp [GS.ow, GS.to, hc]
    go_enter Try.func32, Try.ntmps32
    go_wp2_with fail
    go_at_call 39
    refine hR.mono ?_
    rintro e w1 ⟨rfl, rfl⟩
    clear hR
    go_wp2
    go_ret
    exact ⟨by rw [e0]; rfl, rfl⟩
end Go.Proofs.Ytkndlkcbhpfjoaa
