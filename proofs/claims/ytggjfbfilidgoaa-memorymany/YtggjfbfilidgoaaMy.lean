import Derived.Test.YtggjfbfilidgoaaLg
namespace Go.Proofs.Ytggjfbfilidgoaa
open Go.ChangeShapes Go.WideShapes Go.ChangeAt Go.RowKit
set_option linter.unusedVariables false

theorem info24 : (Try.prog.info? 24).map (fun i => (i.zero, i.size, i.bytes)) = some (some (.pointer none), 1, 8) := by kernel_rfl

def ptrTo (b : Nat) : Value := .pointer (some ⟨b, 0, none⟩)

/-- One memory onto a list of memories. -/
theorem run_appM (w : World) (v : Value) (n : Nat) (xs : List Value) (hown : w.ownsRow 0 24 1 v n xs) (B : Nat) (hn : n ≤ 1000000) :
    ∃ v' w', (Builtin.append_ #[34, 34] 34 #[v, .slice (some ⟨w.heap.size, 0, none⟩) 1 1]).run Try.prog (w.alloc (.cells #[ptrTo B] 24)) = .ok v' w' ∧ w'.ownsRow 0 24 1 v' (n + 1) (xs ++ [ptrTo B]) ∧ (w.alloc (.cells #[ptrTo B] 24)).grownBy w' v.ownBlock ∧ Loc (w.alloc (.cells #[ptrTo B] 24)) v v' := by
  obtain ⟨i0, hi, hz0, hz1, hz2⟩ := info_parts info24
  have hown2 := ((Chg.refl w (fun _ => False)).alloc (.cells #[ptrTo B] 24)).owns hown (fun _ _ h => h)
  refine run_app (P := Try.prog) (w.alloc (.cells #[ptrTo B] 24)) 34 34 24 i0 (.pointer none) 1 8 Try.underlying34 hi hz0 hz1 hz2 rfl (by decide) v n xs hown2 (some ⟨w.heap.size, 0, none⟩) 1 1 [ptrTo B] rfl (.inr ⟨_, _, rfl, ?_⟩) ?_ (by simp [maxLen]; omega) (by omega)
  · intro j u hu
    have hj : j = 0 := by
      have := (List.getElem?_eq_some_iff.1 hu).1
      simpa using this
    subst hj
    simp at hu
    subst hu
    exact (cells_at (heap_alloc_new w (.cells #[ptrTo B] 24)) 0).1
  · intro u hu
    simp at hu; subst hu; rfl
end Go.Proofs.Ytggjfbfilidgoaa
