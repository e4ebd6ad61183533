import Derived.Test.YtadpgaaijdpbiaaLx
import Derived.Deep.CutBlock
import Derived.Sort.QuietIn
import Derived.Sort.CutIn
import Derived.Deep.CutRange
namespace Go.Proofs.Ytadpgaaijdpbiaa
open Go.ChangeShapes Go.WideShapes Go.ChangeAt Go.RowKit Go.Shelf
set_option linter.unusedVariables false

/-! Blocks that were laid since w, and what they hold; all elder ones are as they were. -/
structure Ay (w W : World) (H : HL) : Prop where
  kp : Kp w W
  hs : Hs H W
  new : ∀ p ∈ H, w.heap.size ≤ p.1
section
variable {w W W' : World} {H H' : HL}
theorem Ay.start (w : World) : Ay w w [] := ⟨Chg.refl _ _, (fun p hp => by cases hp), (fun p hp => by cases hp)⟩
theorem Ay.later (h : Ay w W H) (hC : Kp W W') : Ay w W' H := ⟨Kp.trans h.kp hC, h.hs.kp hC, h.new⟩
theorem Ay.cons (h : Ay w W H) {b : Nat} {o : Obj} (hb : W.heap[b]? = some o) (hn : w.heap.size ≤ b) : Ay w W ((b, o) :: H) :=
  ⟨h.kp, fun p hp => by
    rcases List.mem_cons.1 hp with rfl | hp
    · exact hb
    · exact h.hs p hp, fun p hp => by
    rcases List.mem_cons.1 hp with rfl | hp
    · exact hn
    · exact h.new p hp⟩
theorem Ay.laid (h : Ay w W H) (hC : Kp W W') {b : Nat} {o : Obj} (hb : W'.heap[b]? = some o) (hn : W.heap.size ≤ b) : Ay w W' ((b, o) :: H) :=
  (h.later hC).cons hb (by have := h.kp.size; omega)
theorem Ay.sub (h : Ay w W H) (hH : ∀ p ∈ H', p ∈ H) : Ay w W H' := ⟨h.kp, fun p hp => h.hs p (hH p hp), fun p hp => h.new p (hH p hp)⟩
theorem Ay.other (h : Ay w W H) {S : Nat → Prop} (hC : Chg W W' S) (hw : ∀ i, S i → w.heap.size ≤ i) (hH : ∀ p ∈ H, ¬ S p.1) : Ay w W' H :=
  ⟨Chg.trans h.kp hC (fun i hi e => by have := hw i e; omega), h.hs.chg hC hH, h.new⟩
theorem Ay.put {b : Nat} {o o' : Obj} (h : Ay w W ((b, o) :: H)) (hC : Chg W W' (fun i => i = b)) (hb : W'.heap[b]? = some o') (hH : ∀ p ∈ H, p.1 ≠ b) : Ay w W' ((b, o') :: H) := by
  have hn := h.new (b, o) (by simp)
  exact ((h.sub (fun p hp => List.mem_cons_of_mem _ hp)).other hC (fun i e => by rw [e]; exact hn) hH).cons hb hn
/-- A number in a box. -/
theorem Ay.num (h : Ay w W H) {b : Nat} {x : Int} (hp : (b, Obj.cells #[.int .i64 x] 3 (0, 0)) ∈ H) : W.cell? ⟨b, 0, none⟩ = some (.int .i64 x) ∧ W.frozen? ⟨b, 0, none⟩ = false := by
  obtain ⟨h1, h2⟩ := cells_at (h.hs _ hp) 0
  exact ⟨h1, h2⟩
theorem Ay.setNum {b : Nat} {x : Int} (h : Ay w W ((b, .cells #[.int .i64 x] 3 (0, 0)) :: H)) (y : Int) (hH : ∀ p ∈ H, p.1 ≠ b) : Ay w (W.setCell ⟨b, 0, none⟩ (.int .i64 y)) ((b, .cells #[.int .i64 y] 3 (0, 0)) :: H) := by
  refine h.put (Chg.setCell (S := fun i => i = b) (Chg.refl _ _) (.inl rfl) _) ?_ hH
  exact heap_setCell_same W b 0 _ 3 _ (h.hs (b, .cells #[.int .i64 x] 3 (0, 0)) (by simp))
end
end Go.Proofs.Ytadpgaaijdpbiaa
