import Derived.Test.YtkggkkoblpdopaaGreatWr
namespace Go.Proofs.YtkggkkoblpdopaaGreat
open Go.ChangeShapes Go.WideShapes Go.ChangeAt Go.RowKit
set_option linter.unusedVariables false

/-- A writer in memory: its struct at block B, its map at block M, its bytes v. -/
structure IsW (w : World) (B M : Nat) (v : Value) (mo : Obj) (lim : Nat) (data : List Int) (err : Int) : Prop where
  box : w.heap[B]? = some (.cells #[.int .i64 lim, v, .map (some M), .int .i64 err] 135 (0, 0))
  map : w.heap[M]? = some mo
  own : OwnB w v data
  lim_le : lim ≤ 67108864
  len_le : data.length ≤ lim
  nomap : ∀ c e f, mo ≠ .cells c e f

theorem IsW.drew {w : World} {B M : Nat} {v : Value} {mo : Obj} {lim : Nat} {data : List Int} {err : Int} (h : IsW w B M v mo lim data err) : IsW w.drew B M v mo lim data err :=
  ⟨h.box, h.map, ⟨(Chg.refl w (fun _ => False)).drew.owns h.own.1 (by simp), h.own.2⟩, h.lim_le, h.len_le, h.nomap⟩
theorem IsW.drewN {w : World} {B M : Nat} {v : Value} {mo : Obj} {lim : Nat} {data : List Int} {err : Int} (h : IsW w B M v mo lim data err) (n : Nat) : IsW (w.drewN n) B M v mo lim data err :=
  ⟨h.box, h.map, ⟨((Chg.refl w (fun _ => False)).drewN n).owns h.own.1 (by simp), h.own.2⟩, h.lim_le, h.len_le, h.nomap⟩

/-- The blocks of a writer: its own. -/
def Wf (B M : Nat) (v : Value) (k : Nat) : Prop := k = B ∨ k = M ∨ v.ownBlock = some k

theorem IsW.other {w w' : World} {B M : Nat} {v : Value} {mo : Obj} {lim : Nat} {data : List Int} {err : Int} {S : Nat → Prop} (h : IsW w B M v mo lim data err) (hc : Chg w w' S) (hS : ∀ k, Wf B M v k → ¬ S k) : IsW w' B M v mo lim data err :=
  ⟨hc.heap h.box (hS B (.inl rfl)), hc.heap h.map (hS M (.inr (.inl rfl))), ⟨hc.owns h.own.1 (fun k hk => hS k (.inr (.inr hk))), h.own.2⟩, h.lim_le, h.len_le, h.nomap⟩

theorem IsW.setErr {w : World} {B M : Nat} {v : Value} {mo : Obj} {lim : Nat} {data : List Int} {err : Int} (h : IsW w B M v mo lim data err) (e : Int) : IsW (w.setCell ⟨B, 3, none⟩ (.int .i64 e)) B M v mo lim data e := by
  have hMB : M ≠ B := by rintro rfl; have := h.map; rw [h.box] at this; simp at this; exact h.nomap _ _ _ this.symm
  refine ⟨?_, ?_, ⟨?_, h.own.2⟩, h.lim_le, h.len_le, h.nomap⟩
  · rw [heap_setCell_same w B 3 _ 135 _ h.box]; rfl
  · rw [Below.heap_setCell _ _ _ _ (by simpa using hMB)]; exact h.map
  · refine ⟨h.own.1.1, ?_⟩
    rcases h.own.1.2 with h2 | ⟨g, cap, cur, hv, hg, hh, r⟩
    · exact .inl h2
    · have hgB : g ≠ B := by rintro rfl; rw [h.box] at hh; simp at hh
      exact .inr ⟨g, cap, cur, hv, hg, by rw [Below.heap_setCell _ _ _ _ (by simpa using hgB)]; exact hh, r⟩

theorem fail_yes (w : World) (B : Nat) (e : Int) (h0 : w.cell? ⟨B, 3, none⟩ = some (.int .i64 0)) (hf : w.frozen? ⟨B, 3, none⟩ = false) :
    Calls Tryz.prog 68 #[.pointer (some ⟨B, 0, none⟩), .int .i64 e] w fun r w' => r = .returned (.tuple #[]) ∧ w' = w.setCell ⟨B, 3, none⟩ (.int .i64 e) := by
  go_enter Tryz.func68, Tryz.ntmps68
  go_wp2
  go_end0
  exact ⟨rfl, rfl⟩
theorem fail_no (w : World) (B : Nat) (e err : Int) (h0 : w.cell? ⟨B, 3, none⟩ = some (.int .i64 err)) (he : (err == 0) = false) :
    Calls Tryz.prog 68 #[.pointer (some ⟨B, 0, none⟩), .int .i64 e] w fun r w' => r = .returned (.tuple #[]) ∧ w' = w := by
  go_enter Tryz.func68, Tryz.ntmps68
  go_wp2
  go_end0
  exact ⟨rfl, rfl⟩

theorem takes_yes (w : World) (B M : Nat) (v : Value) (mo : Obj) (lim : Nat) (data : List Int) (n : Nat) (h : IsW w B M v mo lim data 0) (hn : data.length + n ≤ lim) :
    Calls Tryz.prog 45 #[.pointer (some ⟨B, 0, none⟩), .int .i64 n] w fun r w' => r = .returned (.bool true) ∧ IsW w' B M v mo lim data 0 ∧ Chg w w' (fun _ => False) := by
  have hl := h.lim_le
  obtain ⟨a, cap, rfl, _⟩ := h.own.shape (by have := h.len_le; omega)
  have c0 := (cells_at h.box 0).1
  have c1 := (cells_at h.box 1).1
  have c3 := (cells_at h.box 3).1
  simp only [List.getElem?_toArray, List.getElem?_cons_zero, List.getElem?_cons_succ] at c0 c1 c3
  have H : Hid (IsW w B M (.slice a data.length cap) mo lim data 0) := h
  clear h
  go_enter Tryz.func45, Tryz.ntmps45
  go_wp2_with fail
  go_quiet (fail)
  go_wp2
  go_ret
  exact ⟨rfl, H.out.drewN _, (Chg.refl _ _).drewN _⟩

theorem takes_full (w : World) (B M : Nat) (v : Value) (mo : Obj) (lim : Nat) (data : List Int) (n : Nat) (h : IsW w B M v mo lim data 0) (hn : lim < data.length + n) (hn2 : n ≤ 140737488355328) :
    Calls Tryz.prog 45 #[.pointer (some ⟨B, 0, none⟩), .int .i64 n] w fun r w' => r = .returned (.bool false) ∧ IsW w' B M v mo lim data 12 ∧ Chg w w' (fun k => k = B) := by
  have hl := h.lim_le
  have hd := h.len_le
  obtain ⟨a, cap, rfl, _⟩ := h.own.shape (by have := h.len_le; omega)
  have c0 := (cells_at h.box 0).1
  have c1 := (cells_at h.box 1).1
  have c3 := (cells_at h.box 3).1
  have f3 := (cells_at h.box 3).2
  simp only [List.getElem?_toArray, List.getElem?_cons_zero, List.getElem?_cons_succ] at c0 c1 c3
  have H : Hid (IsW w B M (.slice a data.length cap) mo lim data 0) := h
  clear h
  go_enter Tryz.func45, Tryz.ntmps45
  go_wp2_with fail
  go_quiet (fail)
  go_wp2_with (go_at_call 68; refine (fail_yes _ _ _ (by go_simp) (by go_simp)).mono ?_; rintro e w' ⟨rfl, rfl⟩)
  go_ret
  exact ⟨rfl, (H.out.drewN _).setErr 12, Chg.setCell (S := fun k => k = B) ((Chg.refl _ _).drewN _) (.inl rfl) _⟩

theorem takes_bad (w : World) (B M : Nat) (v : Value) (mo : Obj) (lim : Nat) (data : List Int) (err : Int) (n : Nat) (h : IsW w B M v mo lim data err) (he : (err == 0) = false) (hn2 : n ≤ 140737488355328) :
    Calls Tryz.prog 45 #[.pointer (some ⟨B, 0, none⟩), .int .i64 n] w fun r w' => r = .returned (.bool false) ∧ IsW w' B M v mo lim data err ∧ Chg w w' (fun _ => False) := by
  have hl := h.lim_le
  have hd := h.len_le
  obtain ⟨a, cap, rfl, _⟩ := h.own.shape (by have := h.len_le; omega)
  have c0 := (cells_at h.box 0).1
  have c1 := (cells_at h.box 1).1
  have c3 := (cells_at h.box 3).1
  simp only [List.getElem?_toArray, List.getElem?_cons_zero, List.getElem?_cons_succ] at c0 c1 c3
  have H : Hid (IsW w B M (.slice a data.length cap) mo lim data err) := h
  clear h
  go_enter Tryz.func45, Tryz.ntmps45
  go_wp2_with fail
  go_quiet (fail)
  go_wp2_with (go_at_call 68; refine (fail_no _ _ _ err (by go_simp) he).mono ?_; rintro e w' ⟨rfl, rfl⟩)
  all_goals go_ret
  all_goals exact ⟨rfl, H.out.drewN _, (Chg.refl _ _).drewN _⟩
end Go.Proofs.YtkggkkoblpdopaaGreat
