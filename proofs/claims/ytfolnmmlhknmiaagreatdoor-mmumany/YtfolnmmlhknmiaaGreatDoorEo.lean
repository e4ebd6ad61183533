import Derived.Test.YtfolnmmlhknmiaaGreatDoorMem
import Derived.Test.YtfolnmmlhknmiaaGreatDoorEm
namespace Go.Proofs.YtfolnmmlhknmiaaGreatDoor
namespace Ent
open Go.ChangeShapes Go.WideShapes Go.ChangeAt Go.RowKit
set_option linter.unusedVariables false

def InI (c : Int) : Prop := -9223372036854775808 ≤ c ∧ c ≤ 9223372036854775807
/-- Nothing that was there has changed. -/
abbrev Kp (w w' : World) : Prop := Chg w w' (fun _ => False)
theorem Kp.trans {a b c : World} (h : Kp a b) (k : Kp b c) : Kp a c := Chg.trans h k (fun _ _ x => x)
theorem Kp.cell {w w' : World} (h : Kp w w') {p : Addr} {v : Value} (hc : w.cell? p = some v) : w'.cell? p = some v := by
  obtain ⟨b, o, s⟩ := p
  have hs : s = none := World.cell?_spot hc
  subst hs
  have hb : b < w.heap.size := by
    rcases Nat.lt_or_ge b w.heap.size with h | h
    · exact h
    · exfalso
      have : w.heap[b]? = none := Array.getElem?_eq_none h
      simp [World.cell?, this] at hc
  rw [Chg.cell h hb (fun x => x)]
  exact hc
theorem box3 {w V : World} {p : Nat} {a b c : Value} {T : TypeId} (h : w.heap[p]? = some (.cells #[a, b, c] T (0, 0))) (x y z : Value) (hV : V = (((w.setCell ⟨p, 0, none⟩ x).setCell ⟨p, 1, none⟩ y).setCell ⟨p, 2, none⟩ z)) :
    V.heap[p]? = some (.cells #[x, y, z] T (0, 0)) ∧ V.heap.size = w.heap.size ∧ Chg w V (fun k => k = p) := by
  subst hV
  have h1 := heap_setCell_same w p 0 _ T x h
  have h2 := heap_setCell_same _ p 1 _ T y h1
  have h3 := heap_setCell_same _ p 2 _ T z h2
  refine ⟨h3, by simp [World.setCell], ?_⟩
  exact Chg.setCell (S := fun k => k = p) (Chg.setCell (S := fun k => k = p) (Chg.setCell (S := fun k => k = p) (Chg.refl w _) (.inl rfl) _) (.inl rfl) _) (.inl rfl) _
theorem cells3 {w : World} {p : Nat} {a b c : Value} {T : TypeId} (h : w.heap[p]? = some (.cells #[a, b, c] T (0, 0))) :
    w.cell? ⟨p, 0, none⟩ = some a ∧ w.cell? ⟨p, 1, none⟩ = some b ∧ w.cell? ⟨p, 2, none⟩ = some c ∧ w.frozen? ⟨p, 0, none⟩ = false ∧ w.frozen? ⟨p, 1, none⟩ = false ∧ w.frozen? ⟨p, 2, none⟩ = false :=
  ⟨by rw [(cells_at h _).1]; rfl, by rw [(cells_at h _).1]; rfl, by rw [(cells_at h _).1]; rfl, (cells_at h _).2, (cells_at h _).2, (cells_at h _).2⟩
theorem of_leaf {G X : Prop} (h : G) (k : G → X) : X := k h
theorem al_old {w : World} (o : Obj) {k : Nat} {x : Obj} (h : w.heap[k]? = some x) : (w.alloc o).heap[k]? = some x := ((Chg.refl w (fun _ => False)).alloc o).heap h (fun h => h)
theorem al_size (w : World) (o : Obj) : (w.alloc o).heap.size = w.heap.size + 1 := by simp
end Ent
end Go.Proofs.YtfolnmmlhknmiaaGreatDoor
