import Derived.Test.YtkndlkcbhpfjoaaNv
namespace Go.Proofs.Ytkndlkcbhpfjoaa
open Go.ChangeShapes Go.WideShapes Go.ChangeAt Go.RowKit Go.Shelf
set_option linter.unusedVariables false
abbrev fn38 (bg bc : Nat) : Value := .func (.func 38) #[] #[.pointer (some ⟨bg, 0, none⟩), .pointer (some ⟨bc, 0, none⟩)]
/-- While a pair's lines are ranged over. -/
structure LiI (w : World) (q B b3 b7 b8 bg bc b9 : Nat) (c m : Int) (V : Value) (l : List Nat) (W : World) (k : Nat) : Prop where
  kp : Kp w W
  x3 : W.heap[b3]? = some (.cells #[.pointer (some ⟨q, 0, none⟩)] 56 (0, 0))
  x4 : W.heap[b3 + 1]? = some (.cells #[.int .i64 c] 3 (0, 0))
  x5 : W.heap[b3 + 1 + 1]? = some (.cells #[.int .i64 m] 3 (0, 0))
  x6 : W.heap[b3 + 1 + 1 + 1]? = some (.cells #[.bool false] 4 (0, 0))
  x7 : W.heap[b7]? = some (.cells #[V] 22 (0, 0))
  x8 : W.heap[b8]? = some (.cells #[fn38 bg bc] 49 (0, 0))
  xg : W.heap[bg]? = some (.cells #[.pointer (some ⟨B, 0, none⟩)] 24 (0, 0))
  xc : W.heap[bc]? = some (.cells #[.int .i64 c] 3 (0, 0))
  x9 : W.heap[b9]? = some (.cells #[.int .i64 (k : Nat)] 3 (0, 0))
  ow : OI W V l
structure LiO (w : World) (b3 b7 b8 bg bc b9 : Nat) (V : Value) : Prop where
  w3 : w.heap.size ≤ b3
  h3 : b3 + 1 + 1 + 1 < b9
  h7 : b7 < b9
  h8 : b8 < b9
  hg : bg < b9
  hc : bc < b9
  hV : ∀ g, V.ownBlock = some g → g < b9
section
variable {w : World} {q B b3 b7 b8 bg bc b9 : Nat} {c m : Int} {V : Value} {l : List Nat}
theorem LiI.keep {A C : World} {T : Nat → Prop} {k : Nat} (o : LiO w b3 b7 b8 bg bc b9 V) (h : LiI w q B b3 b7 b8 bg bc b9 c m V l A k) (hc : Chg A C T) (hT : ∀ i, i ≤ b9 → ¬ T i) : LiI w q B b3 b7 b8 bg bc b9 c m V l C k := by
  obtain ⟨o1, o2, o3, o4, o5, o6, o7⟩ := o
  exact ⟨Chg.trans h.kp hc (fun i hi e => hT i (by omega) e), hc.heap h.x3 (hT _ (by omega)), hc.heap h.x4 (hT _ (by omega)), hc.heap h.x5 (hT _ (by omega)), hc.heap h.x6 (hT _ (by omega)), hc.heap h.x7 (hT _ (by omega)), hc.heap h.x8 (hT _ (by omega)), hc.heap h.xg (hT _ (by omega)), hc.heap h.xc (hT _ (by omega)), hc.heap h.x9 (hT _ (by omega)), Chg.owns hc h.ow (fun g hg => hT _ (by have := o7 g hg; omega))⟩
theorem LiI.kept {A C : World} {k : Nat} (o : LiO w b3 b7 b8 bg bc b9 V) (h : LiI w q B b3 b7 b8 bg bc b9 c m V l A k) (hc : Kp A C) : LiI w q B b3 b7 b8 bg bc b9 c m V l C k := h.keep o hc (fun _ _ e => e)
theorem LiI.set {W : World} {k : Nat} (o : LiO w b3 b7 b8 bg bc b9 V) (h : LiI w q B b3 b7 b8 bg bc b9 c m V l W k) (x : Nat) : LiI w q B b3 b7 b8 bg bc b9 c m V l (W.setCell ⟨b9, 0, none⟩ (.int .i64 (x : Nat))) x ∧ Chg W (W.setCell ⟨b9, 0, none⟩ (.int .i64 (x : Nat))) (fun i => i = b9) := by
  have hc : Chg W (W.setCell ⟨b9, 0, none⟩ (.int .i64 (x : Nat))) (fun i => i = b9) := Chg.setCell (S := fun i => i = b9) (Chg.refl _ _) (.inl rfl) _
  obtain ⟨o1, o2, o3, o4, o5, o6, o7⟩ := o
  exact ⟨⟨Chg.trans h.kp hc (fun i hi e => by omega), hc.heap h.x3 (by omega), hc.heap h.x4 (by omega), hc.heap h.x5 (by omega), hc.heap h.x6 (by omega), hc.heap h.x7 (by omega), hc.heap h.x8 (by omega), hc.heap h.xg (by omega), hc.heap h.xc (by omega), heap_setCell_same W b9 0 _ 3 _ h.x9, Chg.owns hc h.ow (fun g hg e => by have := o7 g hg; omega)⟩, hc⟩
theorem LiI.cells {W : World} {k : Nat} (h : LiI w q B b3 b7 b8 bg bc b9 c m V l W k) : W.cell? ⟨b3, 0, none⟩ = some (.pointer (some ⟨q, 0, none⟩)) ∧ W.cell? ⟨b3 + 1, 0, none⟩ = some (.int .i64 c) ∧ W.cell? ⟨b3 + 1 + 1, 0, none⟩ = some (.int .i64 m) ∧ W.cell? ⟨b7, 0, none⟩ = some V ∧ W.cell? ⟨b8, 0, none⟩ = some (.func (.func 38) #[] #[.pointer (some ⟨bg, 0, none⟩), .pointer (some ⟨bc, 0, none⟩)]) ∧ W.cell? ⟨b9, 0, none⟩ = some (.int .i64 (k : Nat)) ∧ W.frozen? ⟨b9, 0, none⟩ = false :=
  ⟨by rw [(cells_at h.x3 0).1]; rfl, by rw [(cells_at h.x4 0).1]; rfl, by rw [(cells_at h.x5 0).1]; rfl, by rw [(cells_at h.x7 0).1]; rfl, by rw [(cells_at h.x8 0).1]; rfl, by rw [(cells_at h.x9 0).1]; rfl, (cells_at h.x9 0).2⟩
/-- The thing at hand. -/
theorem LiI.thing {W : World} {k : Nat} {va : Option Addr} {ll vc : Nat} {f : Nat → Bool} (h : LiI w q B b3 b7 b8 bg bc b9 c m (.slice va ll vc) (lns f) W k) (j : Nat) (hj : j < (lns f).length) : ∃ g, va = some ⟨g, 0, none⟩ ∧ W.cell? ⟨g, j, none⟩ = some (.int .i64 (lnA f j : Nat)) := by
  obtain ⟨g, cp, eV, _, hgc⟩ := h.ow.at.resolve_left (by rintro ⟨_, e⟩; rw [e] at hj; simp at hj)
  refine ⟨g, by cases eV; rfl, ?_⟩
  have := hgc j hj
  rw [lnA_get f j hj] at this
  exact this
end
end Go.Proofs.Ytkndlkcbhpfjoaa
