import Derived.Test.YtgofjmhdgmfgfaaGreatDoorRc
namespace Go.Proofs.YtgofjmhdgmfgfaaGreatDoor
open Go.ChangeShapes Go.WideShapes Go.ChangeAt Go.RowKit
set_option linter.unusedVariables false

/-- While a word is taken apart by the document. -/
structure Sd (w wr : World) (bi bk : Nat) (op D A B : Int) (K : Array Value) : Prop where
  kp : Kp w wr
  g2 : wr.heap[w.heap.size]? = some (.cells #[.int .i64 0, .int .u8 0, .int .u8 0, .int .u8 0, .int .i32 0] 48 (0, 0))
  gi : wr.heap[bi]? = some (.cells #[.int .i64 op, .int .u8 D, .int .u8 A, .int .u8 B, .int .i32 0] 48 (0, 0))
  gk : wr.heap[bk]? = some (.cells K 116 (0, 0))
  n1 : w.heap.size < bi
  n2 : bk ≠ bi
theorem Sd.setD {w wr : World} {bi bk : Nat} {op D A B : Int} {K : Array Value} (h : Sd w wr bi bk op D A B K) (x : Int) : Sd w (wr.setCell ⟨bi, 1, none⟩ (.int .u8 x)) bi bk op x A B K := by
  have c : Chg wr (wr.setCell ⟨bi, 1, none⟩ (.int .u8 x)) (fun k => k = bi) := Chg.setCell (S := fun k => k = bi) (Chg.refl wr _) (.inl rfl) _
  exact ⟨Chg.trans h.kp c (fun i hi e => by have := h.n1; omega), c.heap h.g2 (by have := h.n1; omega), heap_setCell_same wr bi 1 _ 48 _ h.gi, c.heap h.gk h.n2, h.n1, h.n2⟩
theorem Sd.setA {w wr : World} {bi bk : Nat} {op D A B : Int} {K : Array Value} (h : Sd w wr bi bk op D A B K) (x : Int) : Sd w (wr.setCell ⟨bi, 2, none⟩ (.int .u8 x)) bi bk op D x B K := by
  have c : Chg wr (wr.setCell ⟨bi, 2, none⟩ (.int .u8 x)) (fun k => k = bi) := Chg.setCell (S := fun k => k = bi) (Chg.refl wr _) (.inl rfl) _
  exact ⟨Chg.trans h.kp c (fun i hi e => by have := h.n1; omega), c.heap h.g2 (by have := h.n1; omega), heap_setCell_same wr bi 2 _ 48 _ h.gi, c.heap h.gk h.n2, h.n1, h.n2⟩
theorem Sd.setB {w wr : World} {bi bk : Nat} {op D A B : Int} {K : Array Value} (h : Sd w wr bi bk op D A B K) (x : Int) : Sd w (wr.setCell ⟨bi, 3, none⟩ (.int .u8 x)) bi bk op D A x K := by
  have c : Chg wr (wr.setCell ⟨bi, 3, none⟩ (.int .u8 x)) (fun k => k = bi) := Chg.setCell (S := fun k => k = bi) (Chg.refl wr _) (.inl rfl) _
  exact ⟨Chg.trans h.kp c (fun i hi e => by have := h.n1; omega), c.heap h.g2 (by have := h.n1; omega), heap_setCell_same wr bi 3 _ 48 _ h.gi, c.heap h.gk h.n2, h.n1, h.n2⟩
end Go.Proofs.YtgofjmhdgmfgfaaGreatDoor
