import Derived.Test.YtkggkkoblpdopaaGreatRt
namespace Go.Proofs.YtkggkkoblpdopaaGreat
open Go.ChangeShapes Go.WideShapes Go.ChangeAt Go.RowKit
set_option linter.unusedVariables false

theorem own_shape {w : World} {v : Value} {bs : List Int} (h : OwnB w v bs) (hp : 0 < bs.length) : ∃ g cap, v = .slice (some ⟨g, 0, none⟩) bs.length cap ∧ bs.length ≤ cap := own_nonnil h.1 hp

/-- append onto bytes of one's own. -/
theorem run_appB (w : World) (v : Value) (xs : List Int) (hown : OwnB w v xs) (ao : Option Addr) (m c : Nat) (ys : List Int) (hs : Bs w ao m ys) (hb : xs.length + m ≤ 140737488355328) (ty : TypeId) :
    ∃ v' w', (Builtin.append_ #[22, 22] ty #[v, .slice ao m c]).run Tryz.prog w = .ok v' w' ∧ OwnB w' v' (xs ++ ys) ∧ w.grownBy w' v.ownBlock ∧ Loc w v v' := by
  obtain ⟨i0, hi, hz0, hz1, hz2⟩ := info_parts info5
  obtain ⟨v', w', hr, k1, k2, k3⟩ := run_app (P := Tryz.prog) w 22 ty 5 i0 (.int .u8 0) 1 1 Tryz.underlying22 hi hz0 hz1 hz2 rfl (by decide) v xs.length _ hown.1 ao m c (ys.map (Value.int .u8)) (by simp [hs.1]) hs.src (oneCell_u8 ys) (by simp [maxLen]; omega) (by omega)
  refine ⟨v', w', hr, ⟨?_, ?_⟩, k2, k3⟩
  · have e : (xs ++ ys).length = xs.length + m := by simp [hs.1]
    rw [e]; simpa using k1
  · intro n hn
    rcases List.mem_append.1 hn with h | h
    · exact hown.2 n h
    · exact hs.2.2.1 n h

theorem OwnB.alloc {w : World} {v : Value} {bs : List Int} (h : OwnB w v bs) (o : Obj) : OwnB (w.alloc o) v bs := ⟨h.1.alloc o, h.2⟩
theorem OwnB.chg {w w' : World} {v : Value} {bs : List Int} {S : Nat → Prop} (h : OwnB w v bs) (hc : Chg w w' S) (hn : ∀ k, v.ownBlock = some k → ¬ S k) : OwnB w' v bs := ⟨hc.owns h.1 hn, h.2⟩
theorem OwnB.nil (w : World) : OwnB w (.slice none 0 0) [] := ⟨World.ownsRow_nil _ _ _ _, by simp⟩

set_option maxRecDepth 10000 in
theorem OwnB.cellAt {w : World} {g cap : Nat} {bs : List Int} (h : OwnB w (.slice (some ⟨g, 0, none⟩) bs.length cap) bs) (j : Nat) (hj : j < bs.length) : w.cell? ⟨g, j, none⟩ = some (.int .u8 (bs.getD j 0)) ∧ w.frozen? ⟨g, j, none⟩ = false := by
  refine ⟨?_, h.1.frozenAt j⟩
  rw [h.1.cellAt j (by omega), getD_map_u8 _ _ hj]

/-- The first k bytes written over. -/
def over (xs : List Int) (k : Nat) : List Int := List.replicate k 238 ++ xs.drop k
theorem over_succ (xs : List Int) (k : Nat) (h : k < xs.length) : (over xs k).set k 238 = over xs (k + 1) := by
  unfold over
  rw [List.set_append_right _ _ (by simp)]
  simp only [List.length_replicate, Nat.sub_self]
  rw [List.drop_eq_getElem_cons h, List.set_cons_zero, List.replicate_succ', List.append_assoc]
  rfl
theorem over_len (xs : List Int) (k : Nat) (h : k ≤ xs.length) : (over xs k).length = xs.length := by simp [over]; omega
end Go.Proofs.YtkggkkoblpdopaaGreat
