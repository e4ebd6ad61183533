import Derived.Test.YtkndlkcbhpfjoaaNj
import Derived.Test.YtkndlkcbhpfjoaaJa
namespace Go.Proofs.Ytkndlkcbhpfjoaa
open Go.ChangeShapes Go.WideShapes Go.ChangeAt Go.RowKit Go.Shelf
set_option linter.unusedVariables false
theorem make71 (w : World) : (Instr.makeSlice 71 (.int .i64 32) (.int .i64 32)).run Try.prog w = .ok (.slice (some ⟨w.heap.size, 0, none⟩) 32 32) (w.alloc (.cells (bcl (fun _ => false)).toArray 4)) := by
  have hz : (Try.prog.info? 4).map (fun i => (i.zero, i.size, i.bytes)) = some (some (.bool false), 1, 1) := by kernel_rfl
  cases hq : Try.prog.info? 4 with
  | none => rw [hq] at hz; cases hz
  | some i =>
    rw [hq] at hz
    have hz2 : i.zero = some (.bool false) ∧ i.size = 1 ∧ i.bytes = 1 := by simpa using hz
    obtain ⟨z1, z2, z3⟩ := hz2
    have hm := run_make (P := Try.prog) w 71 4 i (.bool false) Try.underlying71 hq z1 .i64 .i64 32 32 (by omega) (by omega) (by rw [z3]; omega) (by omega)
    have e : madeCells (Value.bool false).cells ((32 : Int).toNat * i.size) = (bcl (fun _ => false)).toArray := by
      rw [z2]
      apply Array.ext_getElem?
      intro j
      by_cases hj : j < 32
      · have hr : (bcl (fun _ => false)).toArray[j]? = some (.bool false) := by rw [List.getElem?_toArray, bcl_at _ j hj]
        rw [hr]; simp [madeCells, Value.cells, hj, Nat.mod_one]
      · have hr : (bcl (fun _ => false)).toArray[j]? = none := by rw [List.getElem?_toArray, List.getElem?_eq_none (by simp [bcl]; omega)]
        rw [hr]; simp [madeCells, hj]
    rw [hm, e]; rfl
theorem make22' (w : World) : (Instr.makeSlice 22 (.int .i64 32) (.int .i64 32)).run Try.prog w = .ok (.slice (some ⟨w.heap.size, 0, none⟩) 32 32) (w.alloc (.cells (icl (fun _ => 0)).toArray 3)) := by
  rw [make22]
  congr 3
section
variable (w : World) (a b c d : Obj)
theorem al4_3 : ((((w.alloc a).alloc b).alloc c).alloc d).drew.heap[w.heap.size + 1 + 1 + 1]? = some d := by
  have e : (((w.alloc a).alloc b).alloc c).heap.size = w.heap.size + 1 + 1 + 1 := by simp
  rw [← e]; exact heap_alloc_new (((w.alloc a).alloc b).alloc c) d
theorem al4_2 : ((((w.alloc a).alloc b).alloc c).alloc d).drew.heap[w.heap.size + 1 + 1]? = some c := by
  have e : ((w.alloc a).alloc b).heap.size = w.heap.size + 1 + 1 := by simp
  rw [← e]; exact al_old d (heap_alloc_new ((w.alloc a).alloc b) c)
theorem al4_1 : ((((w.alloc a).alloc b).alloc c).alloc d).drew.heap[w.heap.size + 1]? = some b := by
  have e : (w.alloc a).heap.size = w.heap.size + 1 := by simp
  rw [← e]; exact al_old d (al_old c (heap_alloc_new (w.alloc a) b))
theorem al4_0 : ((((w.alloc a).alloc b).alloc c).alloc d).drew.heap[w.heap.size]? = some a := al_old d (al_old c (al_old b (heap_alloc_new w a)))
end
set_option maxHeartbeats 4000000 in
theorem fNew_any (w : World) : Calls Try.prog 24 #[] w fun e w' => ∃ F R P M, e = .returned (.pointer (some ⟨F, 0, none⟩)) ∧ IsF w' F R P M GS.zero ∧ Kp w w' ∧ ∀ k, Ff F R P M k → w.heap.size ≤ k := by
  have m1 := make22'
  have m2 := make71
  have g0 : (icl (fun _ => 0)) = icl GS.zero.rt := rfl
  obtain ⟨I0, hI0⟩ : ∃ I0, I0 = (icl (fun _ => 0)).toArray := ⟨_, rfl⟩
  obtain ⟨B0, hB0⟩ : ∃ B0, B0 = (bcl (fun _ => false)).toArray := ⟨_, rfl⟩
  rw [← hI0] at m1
  rw [← hB0] at m2
  have HE : Hid (I0 = (icl GS.zero.rt).toArray ∧ B0 = (bcl GS.zero.pe).toArray ∧ B0 = (bcl GS.zero.ma).toArray) := ⟨hI0, hB0, hB0⟩
  clear hI0 hB0 g0
  go_enter Try.func24, Try.ntmps24
  go_upto_region 1 with fail
  go_region
  all_goals go_wp2
  all_goals go_ret
  all_goals
    obtain ⟨e1, e2, e3⟩ := HE.out
    subst e1
    subst e2
    refine ⟨_, _, _, _, rfl, ⟨al4_3 w _ _ _ _, ?_, ?_, ?_, by omega⟩, ((((Chg.refl w _).alloc _).alloc _).alloc _).alloc _ |>.drew, fun k hk => by rcases hk with e | e | e | e <;> omega⟩
    all_goals first | exact al4_0 w _ _ _ _ | exact al4_1 w _ _ _ _ | exact al4_2 w _ _ _ _
end Go.Proofs.Ytkndlkcbhpfjoaa
