import Derived.Test.YtcmfkopcdlhdnaaRr
namespace Go.Proofs.Ytcmfkopcdlhdnaa
open Go.ChangeShapes Go.WideShapes Go.ChangeAt Go.RowKit Go.Shelf
set_option linter.unusedVariables false
attribute [local go_sem] Oper.semAt_some

/-- Four boxes. -/
theorem four (w w4 : World) (c0 c1 c2 c3 : Value) (t0 t1 t2 t3 : TypeId) (h : w4 = (((w.alloc (.cells #[c0] t0)).alloc (.cells #[c1] t1)).alloc (.cells #[c2] t2)).alloc (.cells #[c3] t3)) :
    w4.heap.size = w.heap.size + 4 ∧ Chg w w4 (fun _ => False) ∧ w4.heap[w.heap.size]? = some (.cells #[c0] t0 (0, 0)) ∧ w4.heap[w.heap.size + 1]? = some (.cells #[c1] t1 (0, 0)) ∧
      w4.heap[w.heap.size + 2]? = some (.cells #[c2] t2 (0, 0)) ∧ w4.heap[w.heap.size + 3]? = some (.cells #[c3] t3 (0, 0)) := by
  subst h
  have nw : ∀ (x : World) (o : Obj) (k : Nat), k = x.heap.size → (x.alloc o).heap[k]? = some o := fun x o k e => by rw [e]; exact heap_alloc_new x o
  refine ⟨by simp, (((((Chg.refl w _).alloc _).alloc _).alloc _).alloc _), ?_, ?_, ?_, nw _ _ _ (by simp)⟩
  · rw [Below.heap_alloc _ _ _ (by simp; omega), Below.heap_alloc _ _ _ (by simp; omega), Below.heap_alloc _ _ _ (by simp)]
    exact nw _ _ _ rfl
  · rw [Below.heap_alloc _ _ _ (by simp), Below.heap_alloc _ _ _ (by simp)]
    exact nw _ _ _ (by simp)
  · rw [Below.heap_alloc _ _ _ (by simp)]
    exact nw _ _ _ (by simp)

/-- A memory that has changed since w, where its pages were f. -/
structure Mc (w : World) (f : Nat → Option Nat) (W : World) (B M pages : Nat) (f' : Nat → Option Nat) (m : Nat → Nat) : Prop where
  isM : IsM W B M pages f' m
  chg : Chg w W (Mf B M f)
  new : ∀ j x, f' j = some x → f j = some x ∨ w.heap.size ≤ x

theorem Mc.refl {w : World} {B M pages : Nat} {f : Nat → Option Nat} {m : Nat → Nat} (h : IsM w B M pages f m) : Mc w f w B M pages f m := ⟨h, Chg.refl _ _, fun _ _ h => .inl h⟩
theorem Mc.mf {w W : World} {B M pages : Nat} {f f' : Nat → Option Nat} {m : Nat → Nat} (h : Mc w f W B M pages f' m) {k : Nat} (hk : Mf B M f' k) : Mf B M f k ∨ w.heap.size ≤ k := by
  rcases hk with e | e | ⟨p, hp⟩
  · exact .inl (.inl e)
  · exact .inl (.inr (.inl e))
  · rcases h.new p k hp with h1 | h1
    · exact .inl (.inr (.inr ⟨p, h1⟩))
    · exact .inr h1
theorem Mc.trans {w W W2 : World} {B M pages : Nat} {f f' f'' : Nat → Option Nat} {m m2 : Nat → Nat} (h : Mc w f W B M pages f' m) (k : Mc W f' W2 B M pages f'' m2) : Mc w f W2 B M pages f'' m2 := by
  refine ⟨k.isM, h.chg.trans k.chg (fun i hi e => ?_), fun j x hj => ?_⟩
  · rcases h.mf e with h1 | h1
    · exact h1
    · omega
  · rcases k.new j x hj with h1 | h1
    · exact h.new j x h1
    · have := h.chg.size; exact .inr (by omega)
theorem Mc.same {w W W2 : World} {B M pages : Nat} {f f' : Nat → Option Nat} {m : Nat → Nat} (h : Mc w f W B M pages f' m) (hc : Chg W W2 (fun _ => False)) : Mc w f W2 B M pages f' m :=
  ⟨h.isM.other hc (fun _ _ h => h), h.chg.trans hc (fun _ _ h => h.elim), h.new⟩

/-- What is not the memory's stays. -/
theorem Mc.heap {w W : World} {B M pages : Nat} {f f' : Nat → Option Nat} {m : Nat → Nat} (h : Mc w f W B M pages f' m) {k : Nat} (hk : k < w.heap.size) (hn : ¬ Mf B M f k) : W.heap[k]? = w.heap[k]? ∧ ¬ Mf B M f' k ∧ k < W.heap.size :=
  ⟨h.chg.block k hk hn, fun e => by rcases h.mf e with h1 | h1; exact hn h1; omega, Nat.lt_of_lt_of_le hk h.chg.size⟩

end Go.Proofs.Ytcmfkopcdlhdnaa
