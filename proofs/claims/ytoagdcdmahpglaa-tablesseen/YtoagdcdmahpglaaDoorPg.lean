import Derived.Test.YtoagdcdmahpglaaDoorWo
namespace Go.Proofs.YtoagdcdmahpglaaDoor
open Go.ChangeShapes Go.WideShapes Go.ChangeAt Go.RowKit
set_option linter.unusedVariables false

theorem ptr_nil_no (b : Nat) (w : World) : (binOp BinOp.eql 139 (Value.pointer (some ⟨b, 0, none⟩)) (Value.pointer none)).run Tryd.prog w = .ok (.bool false) w := by
  kernel_rfl

set_option maxRecDepth 10000 in
theorem page_old (w : World) (B M pages : Nat) (f : Nat → Option Nat) (m : Nat → Nat) (h : IsM w B M pages f m) (k b : Nat) (hf : f k = some b) :
    Calls Tryd.prog 57 #[.pointer (some ⟨B, 0, none⟩), .int .u32 k] w fun e w' => e = .returned (.pointer (some ⟨b, 0, none⟩)) ∧ w' = w := by
  have hk := (h.page k b hf).1
  have hp := h.le
  have hl := h.map.look k (by omega)
  rw [hf] at hl
  have hl2 : (Instr.lookup 132 (.map (some M)) (.int .u32 k) false).run Tryd.prog w = .ok (.pointer (some ⟨b, 0, none⟩)) w := hl
  have c1 := (cells_at h.box 1).1
  simp only [List.getElem?_toArray, List.getElem?_cons_zero, List.getElem?_cons_succ] at c1
  clear h hf hl
  go_enter Tryd.func57, Tryd.ntmps57
  go_wp2
  go_ret
  exact ⟨rfl, rfl⟩

set_option maxRecDepth 10000 in
theorem page_new (w : World) (B M pages : Nat) (f : Nat → Option Nat) (m : Nat → Nat) (h : IsM w B M pages f m) (k : Nat) (hk : k < pages) (hf : f k = none) :
    Calls Tryd.prog 57 #[.pointer (some ⟨B, 0, none⟩), .int .u32 k] w fun e w' => e = .returned (.pointer (some ⟨w.heap.size, 0, none⟩)) ∧ IsM w' B M pages (setF f k w.heap.size) m ∧ Chg w w' (fun i => i = M) := by
  have hp := h.le
  have hl := h.map.look k (by omega)
  rw [hf] at hl
  have hl2 : (Instr.lookup 132 (.map (some M)) (.int .u32 k) false).run Tryd.prog w = .ok (.pointer none) w := hl
  have c1 := (cells_at h.box 1).1
  simp only [List.getElem?_toArray, List.getElem?_cons_zero, List.getElem?_cons_succ] at c1
  have hlt := h.lt
  have hap := h.apart
  have hz := zero99
  have hZ := pageOf_zero (m := m) (k := k) (fun i hi => h.none_ k i hf hi)
  rw [hZ] at hz
  obtain ⟨Z, hZ2⟩ : ∃ Z, Z = pageOf m k := ⟨_, rfl⟩
  rw [← hZ2] at hz
  have hca : Chg w (w.alloc (.cells Z 150)) (fun _ => False) := (Chg.refl _ _).alloc _
  have hmA := h.map.kept hca (fun h => h)
  obtain ⟨w2, hr, hP, hg⟩ := hmA.store k w.heap.size (by omega)
  have cA := (cells_at (hca.heap h.box (fun h => h)) 1).1
  simp only [List.getElem?_toArray, List.getElem?_cons_zero, List.getElem?_cons_succ] at cA
  have K : Hid (IsM w B M pages f m ∧ PM w2 M (setF f k w.heap.size) ∧ (w.alloc (.cells Z 150)).grownBy w2 (some M) ∧ Z = pageOf m k ∧ f k = none ∧ (∀ k, Mf B M f k → k < w.heap.size) ∧ (B ≠ M ∧ ∀ p b, f p = some b → b ≠ B ∧ b ≠ M)) := ⟨h, hP, hg, hZ2, hf, hlt, hap⟩
  clear h hf hl hP hg hca hmA hZ hZ2 hlt hap
  go_enter Tryd.func57, Tryd.ntmps57
  go_wp2
  go_ret
  obtain ⟨h, hP, hg, rfl, hf, hlt, hap⟩ := K.out
  have hc : Chg w w2 (fun i => i = M) := ((Chg.refl w _).alloc _).grown hg (fun k e => .inl (by simp at e; exact e.symm))
  refine ⟨rfl, ⟨hc.heap h.box hap.1, hP, ?_, ?_, ?_, h.byte, h.ge, h.le⟩, hc⟩
  · intro j b hj
    by_cases e : j = k
    · subst e
      simp [setF] at hj
      subst hj
      refine ⟨hk, ?_⟩
      have hM : M < w.heap.size := hlt M (.inr (.inl rfl))
      rw [hg.block _ (by simp) (by simp; omega)]
      exact heap_alloc_new w _
    · simp [setF, e] at hj
      exact ⟨(h.page j b hj).1, hc.heap (h.page j b hj).2 (hap.2 j b hj).2⟩
  · intro j i hj hi
    by_cases e : j = k
    · subst e; exact h.none_ j i hf hi
    · simp [setF, e] at hj; exact h.none_ j i hj hi
  · intro j j' b hj hj'
    by_cases e : j = k <;> by_cases e' : j' = k
    · omega
    · subst e; simp [setF] at hj; simp [setF, e'] at hj'
      have := hlt b (.inr (.inr ⟨j', hj'⟩)); omega
    · subst e'; simp [setF] at hj'; simp [setF, e] at hj
      have := hlt b (.inr (.inr ⟨j, hj⟩)); omega
    · simp [setF, e] at hj; simp [setF, e'] at hj'
      exact h.inj j j' b hj hj'

/-- The page of that number, to be written into. -/
theorem page_any (w : World) (B M pages : Nat) (f : Nat → Option Nat) (m : Nat → Nat) (h : IsM w B M pages f m) (k : Nat) (hk : k < pages) :
    Calls Tryd.prog 57 #[.pointer (some ⟨B, 0, none⟩), .int .u32 k] w fun e w' => ∃ b f', e = .returned (.pointer (some ⟨b, 0, none⟩)) ∧ f' k = some b ∧ IsM w' B M pages f' m ∧ Chg w w' (fun i => i = M) ∧ ∀ j x, f' j = some x → f j = some x ∨ w.heap.size ≤ x := by
  cases hf : f k with
  | some b =>
    refine (page_old w B M pages f m h k b hf).mono ?_
    rintro e w' ⟨rfl, rfl⟩
    exact ⟨b, f, rfl, hf, h, Chg.refl _ _, fun _ _ h => .inl h⟩
  | none =>
    refine (page_new w B M pages f m h k hk hf).mono ?_
    rintro e w' ⟨rfl, h1, h2⟩
    refine ⟨_, _, rfl, by simp [setF], h1, h2, fun j x hj => ?_⟩
    by_cases e : j = k
    · subst e; simp [setF] at hj; right; omega
    · simp [setF, e] at hj; exact .inl hj
end Go.Proofs.YtoagdcdmahpglaaDoor
